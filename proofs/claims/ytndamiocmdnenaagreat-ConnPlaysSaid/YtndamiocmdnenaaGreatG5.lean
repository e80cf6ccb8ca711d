/- BytesAt, Fr1, Fr2, CnP, CnN: texts of this seat, one behind the other. -/
import Derived.Test.YtndamiocmdnenaaGreatG2
import Derived.Maps.AppendAt
import Derived.Test.YtndamiocmdnenaaGreatG1
import Derived.Test.YtndamiocmdnenaaGreatFrs
import Derived.Test.YtndamiocmdnenaaGreatShelf
import Derived.Test.YtndamiocmdnenaaGreatG3
/- append of bytes, with the place at which the new row lies. Nothing of the program is named here. -/
namespace Go.Proofs.YtndamiocmdnenaaGreat
set_option linter.unusedVariables false
set_option maxRecDepth 100000
set_option linter.unusedSimpArgs false
open Go.RowKit

theorem OB.low {w : World} {B B' : Nat} {e : TypeId} {A : Option Addr} {c : Nat} {l : List UInt8} (h : OB w B e A c l) (hB : B' ≤ B) : OB w B' e A c l := by
  refine ⟨h.1, ?_⟩
  rcases h.2 with hn | ⟨g, cap, cur, hv, hg, r⟩
  · exact .inl hn
  · exact .inr ⟨g, cap, cur, hv, Nat.le_trans hB hg, r⟩

/-- append of bytes to bytes, neither being none: where the new row lies. -/
theorem wp_app_at {P : Program} {ops : Array Oper} {rest : List Oper} {o : Oper} {a : Act} {Q : Exit → Act → World → Prop} {w : World} (hgd : o.guard = none) (s x : Operand) (t e : TypeId)
    (ho : o.op = .call { callee := .builtin .append, args := #[s, x], argTypes := #[t, t] }) (ht : P.underlying t = some (.slice e))
    (hi : (P.info? e).map (fun i => (i.zero, i.size, i.bytes)) = some (some (.int .u8 0), 1, 1)) (B : Nat) (l : List UInt8) (g : Nat) (n c : Nat) (hs : a.eval s = .slice (some ⟨g, 0, none⟩) n c) (hn : l.length = n) (hown : OB w B e (some ⟨g, 0, none⟩) c l) (h0 : l ≠ [])
    (k : List UInt8) (gk m c' B' : Nat) (hx : a.eval x = .slice (some ⟨gk, 0, none⟩) m c') (hm : k.length = m) (hR : Rb w B' (some ⟨gk, 0, none⟩) k)
    (hlen : l.length + k.length ≤ 140737488355328) (hbase : B ≤ w.heap.size)
    (h : ∀ g2 c2 w', OB w' B e (some ⟨g2, 0, none⟩) c2 (l ++ k) → w.grownBy w' (some g) → Below B w w' → (g2 = g ∨ g2 = w.heap.size) → wpList P ops Q rest (a.put o.dst (.slice (some ⟨g2, 0, none⟩) (l ++ k).length c2)) w') : wpList P ops Q (o :: rest) a w := by
  subst hn; subst hm
  obtain ⟨i, hi1, hz, hsz, hby⟩ := info_parts hi
  refine wpList_append_own_at w hgd s x t ho B e i (.int .u8 0) 1 1 ht hi1 hz hsz hby rfl (by decide) _ l.length (l.map u8) hs hown ⟨gk, 0, none⟩ k.length c' (k.map u8) hx (by simp) ?_ ?_ (by unfold maxLen; omega) (by omega) hbase ?_
  · intro j u hu
    have hj : j < k.length := by
      rcases Nat.lt_or_ge j k.length with h1 | h1
      · exact h1
      · rw [List.getElem?_eq_none (by simpa using h1)] at hu; cases hu
    rcases hR with h0 | ⟨b, off, e1, _, hc⟩
    · subst h0; simp at hj
    · injection e1 with e1
      rw [e1, add_plain, hc j hj]
      simp [hj] at hu
      exact congrArg some hu
  · intro u hu
    obtain ⟨b, _, rfl⟩ := List.mem_map.1 hu
    rfl
  · intro v' w' hown' hg _ hat
    have hbel : Below B w w' := (Below.refl B w).grown hg hbase (fun k hk => (World.ownsRow.lt hown k hk).1)
    have hlen' : (l ++ k).length = l.length + k.length := List.length_append
    have hp : 0 < l.length + k.length := by have := List.length_pos_iff.2 h0; omega
    obtain ⟨g2, cap, rfl, _, _⟩ := World.ownsRow.form hown' hp
    have := h g2 cap w' (by unfold OB; rw [hlen', List.map_append]; exact hown') hg hbel (by
      rcases hat with e1 | e1
      · left; simpa [Value.ownBlock] using e1
      · right; simpa [Value.ownBlock] using e1)
    rwa [hlen'] at this
end Go.Proofs.YtndamiocmdnenaaGreat

/- frame.fits, begins, First, Put: their contracts. -/
namespace Go.Proofs.YtndamiocmdnenaaGreat
set_option linter.unusedVariables false
set_option maxRecDepth 100000
set_option linter.unusedSimpArgs false
open Go.RowKit

theorem frbytesInfo : (Tryz.prog.info? 5).map (fun i => (i.zero, i.size, i.bytes)) = some (some (.int .u8 0), 1, 1) := by kernel_rfl
/-- May a frame have so many bytes? -/
def fitB (n : Int) : Bool := decide (0 < n) && decide (n ≤ 200)

set_option maxHeartbeats 400000 in
theorem fits_ok (n : Int) (w : World) : Calls Tryz.prog 107 #[.int .i64 n] w fun e w' => e = .returned (.bool (fitB n)) ∧ w = w' := by
  obtain ⟨v, hv⟩ : ∃ v, fitB n = v := ⟨_, rfl⟩
  rw [hv]
  unfold fitB at hv
  by_cases h1 : 0 < n
  · by_cases h2 : n ≤ 200
    · have e : v = true := by rw [← hv]; simp; omega
      subst e
      clear hv
      go_enter Tryz.func107, Tryz.ntmps107
      go_wp2
      go_ret
      exact ⟨rfl, rfl⟩
    · have e : v = false := by rw [← hv]; simp; omega
      subst e
      clear hv
      go_enter Tryz.func107, Tryz.ntmps107
      go_wp2
      go_ret
      exact ⟨rfl, rfl⟩
  · have e : v = false := by rw [← hv]; simp; omega
    subst e
    clear hv
    go_enter Tryz.func107, Tryz.ntmps107
    go_wp2
    go_ret
    exact ⟨rfl, rfl⟩

/-- A byte of a slice. -/
theorem Rb.byte {w : World} {B : Nat} {A : Option Addr} {l : List UInt8} (h : Rb w B A l) (i : Nat) (hi : i < l.length) : ∃ b o, A = some ⟨b, o, none⟩ ∧ b < B ∧ w.cell? ⟨b, o + i, none⟩ = some (.int .u8 ((l[i]).toNat : Int)) := by
  rcases h with h0 | ⟨b, o, e, hb, hc⟩
  · subst h0; simp at hi
  · exact ⟨b, o, e, hb, hc i hi⟩

set_option maxHeartbeats 1000000 in
theorem begins_ok (A : Option Addr) (n c : Nat) (l : List UInt8) (w : World) (hl : l.length = n) (hR : Rb w w.heap.size A l) :
    Calls Tryz.prog 94 #[.slice A n c] w fun e w' => e = .returned (.bool (begB l)) ∧ w = w' := by
  match l, hl, hR with
  | [], hl, hR =>
    subst hl
    go_enter Tryz.func94, Tryz.ntmps94
    go_wp2
    go_ret
    exact ⟨rfl, rfl⟩
  | [m], hl, hR =>
    subst hl
    obtain ⟨b, o, rfl, _, c0⟩ := hR.byte 0 (by simp)
    rw [Nat.add_zero] at c0
    simp only [List.getElem_cons_zero] at c0
    have hb : begB [m] = (m.toNat == 170) := rfl
    rw [hb]
    by_cases h : m.toNat = 170
    · rw [h] at c0 ⊢
      go_enter Tryz.func94, Tryz.ntmps94
      go_wp2
      go_ret
      exact ⟨rfl, rfl⟩
    · have e1 : (m.toNat == 170) = false := by simp [h]
      rw [e1]
      obtain ⟨q, hq⟩ : ∃ q : Int, q = (m.toNat : Int) := ⟨_, rfl⟩
      rw [← hq] at c0
      have e2 : (q == 170) = false := by rw [beq_eq_false_iff_ne]; omega
      clear hq e1 hb
      go_enter Tryz.func94, Tryz.ntmps94
      go_wp2
      go_ret
      exact ⟨rfl, rfl⟩
  | m :: k :: r, hl, hR =>
    obtain ⟨b, o, rfl, _, c0⟩ := hR.byte 0 (by simp)
    obtain ⟨b', o', e', _, c1⟩ := hR.byte 1 (by simp)
    injection e' with e'
    injection e' with e1 e2
    subst e1; subst e2
    rw [Nat.add_zero] at c0
    simp only [List.getElem_cons_zero, List.getElem_cons_succ] at c0 c1
    have hb : begB (m :: k :: r) = (m.toNat == 170 && (decide (0 < k.toNat) && decide (k.toNat ≤ 200))) := rfl
    rw [hb]
    have hn2 : 2 ≤ n := by simp only [List.length_cons] at hl; omega
    clear hb hl hR
    have g0 : 0 < n := by omega
    have g1 : (0 : Int) < (n : Int) := by omega
    have g2 : ¬ ((n : Int) < 2) := by omega
    by_cases h : m.toNat = 170
    · rw [h] at c0 ⊢
      have HF := Lib.hid (fun u => fits_ok (k.toNat : Int) u)
      have hf : fitB (k.toNat : Int) = (decide (0 < k.toNat) && decide (k.toNat ≤ 200)) := by
        unfold fitB
        congr 1
        · simp
        · exact decide_eq_decide.2 (by omega)
      rw [hf] at HF
      have e3 : ((170 : Nat) == 170 && (decide (0 < k.toNat) && decide (k.toNat ≤ 200))) = (decide (0 < k.toNat) && decide (k.toNat ≤ 200)) := rfl
      rw [e3]
      obtain ⟨v, hv⟩ : ∃ v, (decide (0 < k.toNat) && decide (k.toNat ≤ 200)) = v := ⟨_, rfl⟩
      rw [hv] at HF ⊢
      obtain ⟨q, hq⟩ : ∃ q : Int, q = (k.toNat : Int) := ⟨_, rfl⟩
      have hq1 : 0 ≤ q ∧ q < 256 := by have := k.toNat_lt; omega
      rw [← hq] at c1 HF
      clear hq hf e3 hv h
      go_enter Tryz.func94, Tryz.ntmps94
      go_wp2_with (go_at_call 107; refine (HF.out _).mono ?_; rintro e w' ⟨rfl, rfl⟩)
      all_goals go_ret
      all_goals exact ⟨rfl, rfl⟩
    · have e1 : (m.toNat == 170) = false := by simp [h]
      rw [e1]
      obtain ⟨q, hq⟩ : ∃ q : Int, q = (m.toNat : Int) := ⟨_, rfl⟩
      rw [← hq] at c0
      have e2 : (q == 170) = false := by rw [beq_eq_false_iff_ne]; omega
      clear hq e1
      go_enter Tryz.func94, Tryz.ntmps94
      go_wp2
      go_ret
      exact ⟨rfl, rfl⟩
end Go.Proofs.YtndamiocmdnenaaGreat

/- frame.First: its contract. -/
namespace Go.Proofs.YtndamiocmdnenaaGreat
set_option linter.unusedVariables false
set_option maxRecDepth 100000
set_option linter.unusedSimpArgs false
open Go.RowKit

/-- The error that bytes have. -/
def errF (l : List UInt8) : Nat := if begB l = true then 0 else 61
theorem err_ok (l : List UInt8) (h : begB l = true) : errF l = 0 := by unfold errF; rw [if_pos h]
theorem err_bad (l : List UInt8) (h : begB l = false) : errF l = 61 := by unfold errF; rw [h]; rfl
theorem part_nil (l : List UInt8) (h : lenF l = 0) : partF l = [] := by unfold partF; rw [h]; rfl
theorem part_len_le (l : List UInt8) : (partF l).length ≤ 200 := by
  rcases Nat.eq_zero_or_pos (lenF l) with h | h
  · rw [part_nil l h]; simp
  · exact ((fine_iff _).1 (len_pos l (by omega)).1).2
/-- The three ways on which bytes are looked at. -/
theorem first_ways (l : List UInt8) : (begB l = false ∧ lenF l = 0) ∨ (begB l = true ∧ lenF l = 0 ∧ l.length < 2) ∨
    (∃ m k r, l = m :: k :: r ∧ begB l = true ∧ m.toNat = 170 ∧ 0 < k.toNat ∧ k.toNat ≤ 200 ∧ (lenF l = 0 ∧ r.length < k.toNat ∨ lenF l = k.toNat + 2 ∧ k.toNat ≤ r.length ∧ partF l = r.take k.toNat)) := by
  cases hb : begB l with
  | false => exact .inl ⟨rfl, beg_none l hb⟩
  | true =>
    right
    match l, hb with
    | [], _ => left; exact ⟨rfl, rfl, by simp⟩
    | [m], _ => left; exact ⟨rfl, rfl, by simp⟩
    | m :: k :: r, hb =>
      right
      refine ⟨m, k, r, rfl, rfl, ?_⟩
      have h0 : (m.toNat == 170 && (decide (0 < k.toNat) && decide (k.toNat ≤ 200))) = true := hb
      simp only [Bool.and_eq_true, beq_iff_eq, decide_eq_true_eq] at h0
      obtain ⟨h1, h2, h3⟩ := h0
      refine ⟨h1, h2, h3, ?_⟩
      rw [len_two]
      by_cases h4 : k.toNat ≤ r.length
      · right
        rw [if_pos ⟨h1, h2, h3, h4⟩]
        refine ⟨rfl, h4, ?_⟩
        unfold partF
        rw [len_two, if_pos ⟨h1, h2, h3, h4⟩]
        simp
      · left
        rw [if_neg (by intro h; exact h4 h.2.2.2)]
        exact ⟨rfl, by omega⟩

/-- bytes.Clone of bytes that are not at nil. -/
theorem clone_ok (b o q c : Nat) (l : List UInt8) (w : World) (hl : l.length = q) (hq : q ≤ 140737488355328) (h : ∀ i, (h : i < l.length) → w.cell? ⟨b, o + i, none⟩ = some (.int .u8 ((l[i]).toNat : Int))) :
    Calls Tryz.prog 95 #[.slice (some ⟨b, o, none⟩) q c] w fun e w' => ∃ g c2, e = .returned (.slice (some ⟨g, 0, none⟩) q c2) ∧ OB w' w.heap.size 5 (some ⟨g, 0, none⟩) c2 l ∧ Below w.heap.size w w' := by
  refine (Tryz.bytes_Clone_at ⟨b, o, none⟩ q c (l.map fun x => (x.toNat : Int)) w (by rw [List.length_map, hl]) hq ?_).mono ?_
  · intro i hi
    rw [add_plain, h i (by omega)]
    simp [List.getD, (by omega : i < l.length)]
  · rintro e w' ⟨v', rfl, hown, hne, hb⟩
    have e1 : (l.map fun x => (x.toNat : Int)).map (Value.int .u8) = l.map Go.Proofs.YtndamiocmdnenaaGreat.u8 := by rw [List.map_map]; rfl
    rw [e1] at hown
    rcases hown.2 with ⟨hv, _⟩ | ⟨g, cap, cur, rfl, _⟩
    · exact absurd hv hne
    · exact ⟨g, cap, rfl, by unfold OB; rw [hl]; exact hown, hb⟩

set_option maxHeartbeats 2000000 in
theorem frfirst_ok (A : Option Addr) (n c : Nat) (l : List UInt8) (w : World) (hl : l.length = n) (hc : n ≤ c) (hmax : c ≤ 9223372036854775807) (hR : Rb w w.heap.size A l) :
    Calls Tryz.prog 87 #[.slice A n c] w fun e w' => ∃ A2 c2, e = .returned (.tuple #[.slice A2 (partF l).length c2, .int .i64 (lenF l : Nat), .int .i64 (errF l : Nat)]) ∧ OB w' w.heap.size 5 A2 c2 (partF l) ∧ (A2 = none → c2 = 0) ∧ Below w.heap.size w w' := by
  have HB := Lib.hid (begins_ok A n c l w hl hR)
  rcases first_ways l with ⟨hb, h0⟩ | ⟨hb, h0, hs⟩ | ⟨m, k, r, he, hb, hm, hk0, hk2, hway⟩
  · rw [hb] at HB
    rw [h0, part_nil l h0, err_bad l hb]
    clear hb h0 hl hR
    go_enter Tryz.func87, Tryz.ntmps87
    go_wp2_with (go_at_call 94; refine HB.out.mono ?_; rintro e w' ⟨rfl, rfl⟩)
    go_ret3
    exact ⟨none, 0, rfl, OB.nil _ _ _, fun _ => rfl, Below.refl _ _⟩
  · rw [hb] at HB
    rw [h0, part_nil l h0, err_ok l hb]
    have g2 : (n : Int) < 2 := by omega
    clear hb h0 hl hR hs
    go_enter Tryz.func87, Tryz.ntmps87
    go_wp2_with (go_at_call 94; refine HB.out.mono ?_; rintro e w' ⟨rfl, rfl⟩)
    go_ret3
    exact ⟨none, 0, rfl, OB.nil _ _ _, fun _ => rfl, Below.refl _ _⟩
  · rw [hb] at HB
    have hl1 : 1 < l.length := by rw [he]; simp
    have hlr : l.length = r.length + 2 := by rw [he]; rfl
    obtain ⟨b, o, rfl, hbl, c1⟩ := hR.byte 1 hl1
    have ek : l[1] = k := by simp [he]
    rw [ek] at c1
    have HRR := Lib.hid hR
    have HE := Lib.hid he
    obtain ⟨q, hq⟩ : ∃ q, q = k.toNat := ⟨_, rfl⟩
    rw [← hq] at c1 hk0 hk2 hway
    have g2 : ¬ ((n : Int) < 2) := by omega
    rw [err_ok l hb]
    rcases hway with ⟨h0, hlt⟩ | ⟨h1, hle, hp⟩
    · rw [h0, part_nil l h0]
      have g3 : (n : Int) < 2 + (q : Int) := by omega
      clear hb h0 hl hR hlt he ek hq hm hl1 hlr
      go_enter Tryz.func87, Tryz.ntmps87
      go_wp2_with (go_at_call 94; refine HB.out.mono ?_; rintro e w' ⟨rfl, rfl⟩)
      go_ret3
      exact ⟨none, 0, rfl, OB.nil _ _ _, fun _ => rfl, Below.refl _ _⟩
    · rw [h1, hp]
      have HP := Lib.hid hp
      have htl : (r.take q).length = q := by rw [List.length_take]; omega
      have HTL := Lib.hid htl
      have HCL := Lib.hid (fun (c' : Nat) => clone_ok b (o + 2) q c' (r.take q) w htl (by omega) (by
        intro i hi
        have hi2 : 2 + i < l.length := by omega
        obtain ⟨b', o', e', _, ci⟩ := hR.byte (2 + i) hi2
        injection e' with e'
        injection e' with e1 e2
        subst e1; subst e2
        rw [← Nat.add_assoc] at ci
        rw [ci]
        have e3 : l[2 + i] = (r.take q)[i] := by
          have : l[2 + i]? = r[i]? := by rw [he]; rw [Nat.add_comm]; rfl
          rw [List.getElem?_eq_getElem hi2, List.getElem?_eq_getElem (by omega)] at this
          rw [List.getElem_take]
          exact Option.some.inj this
        rw [e3]))
      have g3 : (2 : Int) + (q : Int) ≤ (n : Int) := by omega
      have g4 : (2 : Int) ≤ 2 + (q : Int) := by omega
      have g5 : (2 : Int) + (q : Int) ≤ (c : Int) := by omega
      have g6 : ¬ (c = 2) := by omega
      clear hb hl hR hle he ek hq hm hl1 hlr h1 hp htl
      go_enter Tryz.func87, Tryz.ntmps87
      go_wp2_with (go_at_call 94; refine HB.out.mono ?_; rintro e w' ⟨rfl, rfl⟩)
      have e5 : 2 + q - 2 = q := by omega
      rw [e5]
      refine (HCL.out _).mono ?_
      rintro e w' ⟨g, c2, rfl, ho, hb⟩
      have HO := Lib.hid ho
      have HBB := Lib.hid hb
      clear ho hb
      go_wp2_with fail
      go_ret3
      refine ⟨some ⟨g, 0, none⟩, c2, ?_, HO.out, fun e => (by cases e), HBB.out⟩
      rw [HTL.out]
      have e6 : (2 : Int) + (q : Int) = ((q + 2 : Nat) : Int) := by omega
      rw [e6]
      rfl
end Go.Proofs.YtndamiocmdnenaaGreat

/- One connection of the program's: contracts of peer's methods. (Written by gen_cnp.py.) -/
namespace Go.Proofs.YtndamiocmdnenaaGreat
set_option linter.unusedVariables false
set_option maxRecDepth 100000
set_option linter.unusedSimpArgs false
open Go.RowKit

def fe1 (c : Cn) (B : List UInt8) : Nat × Cn := if c.en = true then (0, c) else (min B.length (512 - c.q.length), { c with q := c.q ++ B.take (512 - c.q.length) })
def ne1 (c : Cn) : (List UInt8 × Bool × Int) × Cn := if begB c.q = false then (([], false, 61), c) else if lenF c.q = 0 then (([], false, 0), c) else ((partF c.q, true, 0), { c with q := c.q.drop (lenF c.q) })
def re1 (c : Cn) (n : Int) : List UInt8 × Cn := (c.q.take (takeM n c.q.length), { c with q := c.q.drop (takeM n c.q.length) })
def sa1 (c : Cn) (B : List UInt8) : Bool × Cn := if 1024 - c.w.length < B.length then (false, c) else (true, { c with w := c.w ++ B })
def bu1 (c : Cn) (n : Int) : Bool × Cn := if n < 0 ∨ 1073741824 < n then (false, c) else (true, { c with cr := min (c.cr + n.toNat) 1073741824 })
def fl1 (c : Cn) : List UInt8 × Cn := (c.w.take c.cr, { c with w := c.w.drop c.cr, cr := c.cr - c.w.length })
def ha1 (c : Cn) : Bool × Cn := if c.en = true then (false, c) else (true, { c with en := true })
theorem Fs.ke {u u' : World} {B : Nat} {H L : List Nat} {A : Option Addr} {t c : Nat} {l : List UInt8} (h : Fs u B H A t c l) (k : Ke L u u') (hL : ∀ x ∈ L, x < B) : Fs u' B H A t c l := by
  refine ⟨h.len, h.cap, h.max, h.nil_, ?_⟩
  rcases h.rb with h0 | ⟨g, o, e, h1, h2, h3, h4⟩
  · exact .inl h0
  · exact .inr ⟨g, o, e, h1, h2, Nat.lt_of_lt_of_le h3 k.size, fun i hi => (World.cell?_of_block (w := u) (a := ⟨g, o + i, none⟩) (k.block g h3 (fun hx => by have := hL g hx; omega))).trans (h4 i hi)⟩
theorem Fs.low {u : World} {B B' : Nat} {H : List Nat} {A : Option Addr} {t c : Nat} {l : List UInt8} (h : Fs u B H A t c l) (hB : B' ≤ B) : Fs u B' H A t c l := by
  refine ⟨h.len, h.cap, h.max, h.nil_, ?_⟩
  rcases h.rb with h0 | ⟨g, o, e, h1, h2⟩
  · exact .inl h0
  · exact .inr ⟨g, o, e, Nat.le_trans hB h1, h2⟩
theorem Fs.nil (u : World) (B : Nat) (H : List Nat) : Fs u B H none 0 0 [] := ⟨rfl, Nat.le_refl _, by omega, fun _ => ⟨rfl, rfl⟩, .inl rfl⟩
theorem Fs.bk {u : World} {B : Nat} {g : Nat} {ty : TypeId} {l : List UInt8} {t : Nat} (h : Bk u g ty (bcells l)) (hB : B ≤ g) (ht : l.length = t) (hm : t ≤ 9223372036854775807) : Fs u B [] (some ⟨g, 0, none⟩) t t l :=
  ⟨ht, Nat.le_refl _, hm, (fun e => by cases e), .inr ⟨g, 0, rfl, hB, (fun e => by cases e), h.lt, fun i hi => by rw [h.cell, Nat.zero_add, bcells_at l i hi]⟩⟩
theorem OB.fs {u : World} {B : Nat} {e : TypeId} {A : Option Addr} {c t : Nat} {l : List UInt8} (h : OB u B e A c l) (hn : A = none → c = 0) (ht : l.length = t) : Fs u B [] A t c l := by
  obtain ⟨h1, h2⟩ := h.cap
  subst ht
  refine ⟨rfl, h1, h2, fun e => ?_, ?_⟩
  · have := hn e
    omega
  · by_cases h0 : l = []
    · exact .inl h0
    · obtain ⟨g, hA, hB, hl⟩ := h.form h0
      rcases h.rb with h3 | ⟨b, o, eA, hb, hc⟩
      · exact .inl h3
      · rw [hA] at eA
        injection eA with eA
        injection eA with e1 e2
        subst e1; subst e2
        exact .inr ⟨g, 0, hA, hB, (fun e => by cases e), hl, hc⟩
section
variable {u u' : World} {P : Pl} {c : Cn}
theorem Pe.ringA (h : Pe u P c) {q' : List UInt8} (k : Ke [P.r0, P.g0] u u') (r : Rg u' P.r0 P.g0 512 q') : Pe u' P { c with q := q' } := by
  have D := dp_of h.nd
  exact ⟨h.bk.ke k (by simp only [List.mem_cons, List.not_mem_nil, or_false, not_or]; exact ⟨D.a, D.b⟩), r, h.b.ke k (by simp only [List.mem_cons, List.not_mem_nil, or_false, not_or]; exact ⟨D.f.symm, D.h.symm⟩) (by simp only [List.mem_cons, List.not_mem_nil, or_false, not_or]; exact ⟨D.g.symm, D.i.symm⟩), h.nd⟩
theorem Pe.ringB (h : Pe u P c) {q' : List UInt8} (k : Ke [P.r1, P.g1] u u') (r : Rg u' P.r1 P.g1 1024 q') : Pe u' P { c with w := q' } := by
  have D := dp_of h.nd
  exact ⟨h.bk.ke k (by simp only [List.mem_cons, List.not_mem_nil, or_false, not_or]; exact ⟨D.c, D.d⟩), h.a.ke k (by simp only [List.mem_cons, List.not_mem_nil, or_false, not_or]; exact ⟨D.f, D.g⟩) (by simp only [List.mem_cons, List.not_mem_nil, or_false, not_or]; exact ⟨D.h, D.i⟩), r, h.nd⟩
theorem Pe.set_ (h : Pe u P c) {c' : Cn} (j : Nat) (v : Value) (hq : c'.q = c.q) (hw : c'.w = c.w) (hv : (pecells P c).setIfInBounds j v = pecells P c') : Pe (u.setCell ⟨P.p, j, none⟩ v) P c' := by
  have D := dp_of h.nd
  have k : Ke [P.p] u (u.setCell ⟨P.p, j, none⟩ v) := (Ke.refl [P.p] u).set (p := ⟨P.p, j, none⟩) (by simp) _
  refine ⟨hv ▸ h.bk.set j v, hq ▸ h.a.ke k (by simpa using D.a.symm) (by simpa using D.b.symm), hw ▸ h.b.ke k (by simpa using D.c.symm) (by simpa using D.d.symm), h.nd⟩
theorem Pe.cred (h : Pe u P c) (n : Nat) : Pe (u.setCell ⟨P.p, 3, none⟩ (.int .i64 (n : Int))) P { c with cr := n } := h.set_ 3 _ rfl rfl rfl
theorem Pe.end_ (h : Pe u P c) : Pe (u.setCell ⟨P.p, 4, none⟩ (.bool true)) P { c with en := true } := h.set_ 4 _ rfl rfl rfl
theorem Pl.kp (P : Pl) (u : World) (j : Nat) (v : Value) : Ke P.bs u (u.setCell ⟨P.p, j, none⟩ v) := (Ke.refl P.bs u).set (p := ⟨P.p, j, none⟩) (by simp [Pl.bs]) _
theorem Pl.ka {L : List Nat} (h : L = [P.r0, P.g0] ∨ L = [P.r1, P.g1] ∨ L = [P.r0] ∨ L = [P.r1] ∨ L = []) (k : Ke L u u') : Ke P.bs u u' := k.more (fun x hx => by
  rcases h with rfl | rfl | rfl | rfl | rfl <;> simp only [List.mem_cons, List.not_mem_nil, or_false] at hx <;> simp only [Pl.bs, List.mem_cons, List.not_mem_nil, or_false]
  · rcases hx with rfl | rfl <;> simp
  · rcases hx with rfl | rfl <;> simp
  · simp [hx]
  · simp [hx])
set_option maxRecDepth 100000 in
set_option maxHeartbeats 2000000 in
theorem pe_feed (h : Pe u P c) (A : Option Addr) (n cp : Nat) (l : List UInt8) (hl : l.length = n) (hc : n ≤ cp) (hcm : cp ≤ 9223372036854775807) (hR : Rf u P.bs A l) (r : Nat) (c2 : Cn) (hE : fe1 c l = (r, c2)) :
    Calls Tryz.prog 50 #[.pointer (some ⟨P.p, 0, none⟩), .slice A n cp] u fun e u' => e = .returned (.int .i64 (r : Int)) ∧ Pe u' P c2 ∧ Ke P.bs u u' := by
  have HP := Lib.hid h
  have d1 : u.cell? ⟨P.p, 1, none⟩ = some (.pointer (some ⟨P.r0, 0, none⟩)) := h.bk.cell 1
  have d4 : u.cell? ⟨P.p, 4, none⟩ = some (.bool c.en) := h.bk.cell 4
  have HA := Lib.hid (add_ok P.r0 P.g0 512 A n cp l c.q u h.a hl hc hcm (hR.less (by simp [Pl.bs])))
  obtain ⟨en, hen⟩ : ∃ en, c.en = en := ⟨_, rfl⟩
  have hen2 := hen
  unfold fe1 at hE
  rw [hen] at d4 hE
  have HE := Lib.hid hE
  have HL := Lib.hid hl
  clear h hl hc hcm hR hen hE
  cases en with
  | true =>
    have e1 := HE.out
    injection e1 with e1 e2
    subst e1; subst e2
    clear hen2
    go_enter Tryz.func50, Tryz.ntmps50
    go_wp2_with fail
    go_ret
    exact ⟨rfl, HP.out, Ke.refl _ _⟩
  | false =>
    obtain ⟨x, hx⟩ : ∃ x, min n (512 - c.q.length) = x := ⟨_, rfl⟩
    rw [hx] at HA
    have HX := Lib.hid hx
    clear hx
    have HEN := Lib.hid (show c.en = false from hen2)
    clear hen2
    go_enter Tryz.func50, Tryz.ntmps50
    go_wp2_with (go_at_call 86; (with_reducible refine HA.out.mono ?_); rintro e u3 ⟨rfl, j1, j2⟩; have R3 := Lib.hid (And.intro j1 j2); clear j1 j2)
    go_ret
    have e1 := HE.out
    rw [if_neg (by simp)] at e1
    injection e1 with e1 e2
    rw [HL.out, HX.out] at e1
    subst e1; subst e2
    have hf := HP.out.ringA R3.out.2 R3.out.1
    rw [HEN.out] at hf
    exact ⟨rfl, hf, Pl.ka (.inl rfl) R3.out.2⟩
set_option maxRecDepth 100000 in
set_option maxHeartbeats 2000000 in
theorem pe_say (h : Pe u P c) (A : Option Addr) (n cp : Nat) (l : List UInt8) (hl : l.length = n) (hc : n ≤ cp) (hcm : cp ≤ 9223372036854775807) (hR : Rf u P.bs A l) (r : Bool) (c2 : Cn) (hE : sa1 c l = (r, c2)) :
    Calls Tryz.prog 56 #[.pointer (some ⟨P.p, 0, none⟩), .slice A n cp] u fun e u' => e = .returned (.bool r) ∧ Pe u' P c2 ∧ Ke P.bs u u' := by
  have HP := Lib.hid h
  have d2 : u.cell? ⟨P.p, 2, none⟩ = some (.pointer (some ⟨P.r1, 0, none⟩)) := h.bk.cell 2
  have HRM := Lib.hid (room_ok P.r1 P.g1 1024 c.w u h.b)
  have HA := Lib.hid (fun u1 (k : Ke [] u u1) => add_ok P.r1 P.g1 1024 A n cp l c.w u1 (h.b.ke k (by simp) (by simp)) hl hc hcm ((hR.ke k (by simp)).less (by simp [Pl.bs])))
  have D2 := Lib.hid (fun u1 (k : Ke [] u u1) => (h.bk.ke k (by simp)).cell 2)
  obtain ⟨x, hx⟩ : ∃ x, 1024 - c.w.length = x := ⟨_, rfl⟩
  unfold sa1 at hE
  rw [hx, hl] at hE
  rw [hx] at HRM HA
  have HE := Lib.hid hE
  have HX := Lib.hid hx
  have HL := Lib.hid hl
  clear h hl hc hcm hR hE hx
  by_cases hxn : x < n
  · have h1 : (x : Int) < (n : Int) := by omega
    have HN := Lib.hid hxn
    clear hxn HA
    go_enter Tryz.func56, Tryz.ntmps56
    go_wp2_with (go_at_call 80; (with_reducible refine HRM.out.mono ?_); rintro e u3 ⟨rfl, j1⟩; have K3 := Lib.hid j1; clear j1)
    go_ret
    have e1 := HE.out
    rw [if_pos HN.out] at e1
    injection e1 with e1 e2
    subst e1; subst e2
    exact ⟨rfl, HP.out.ke K3.out (by simp), K3.out.nil⟩
  · have h1 : ¬ (x : Int) < (n : Int) := by omega
    have HN := Lib.hid hxn
    clear hxn
    obtain ⟨y, hy⟩ : ∃ y, min n x = y := ⟨_, rfl⟩
    rw [hy] at HA
    go_enter Tryz.func56, Tryz.ntmps56
    go_wp2_with (first | (go_at_call 80; (with_reducible refine HRM.out.mono ?_); rintro e u3 ⟨rfl, j1⟩; have K3 := Lib.hid j1; have d3 : u3.cell? ⟨P.p, 2, none⟩ = some (.pointer (some ⟨P.r1, 0, none⟩)) := D2.out u3 K3.out; clear j1) | (go_at_call 86; (with_reducible refine (HA.out _ K3.out).mono ?_); rintro e u4 ⟨rfl, j1, j2⟩; have R4 := Lib.hid (And.intro j1 j2); clear j1 j2))
    go_ret
    have e1 := HE.out
    rw [if_neg HN.out] at e1
    injection e1 with e1 e2
    subst e1; subst e2
    have r4 := R4.out.1
    rw [List.take_of_length_le (by have h2 := HL.out; have h3 := HN.out; omega)] at r4
    exact ⟨rfl, (HP.out.ke K3.out (by simp)).ringB R4.out.2 r4, K3.out.nil.trans (Pl.ka (.inr (.inl rfl)) R4.out.2)⟩
set_option maxRecDepth 100000 in
set_option maxHeartbeats 2000000 in
theorem pe_half (h : Pe u P c) (r : Bool) (c2 : Cn) (hE : ha1 c = (r, c2)) :
    Calls Tryz.prog 64 #[.pointer (some ⟨P.p, 0, none⟩)] u fun e u' => e = .returned (.bool r) ∧ Pe u' P c2 ∧ Ke P.bs u u' := by
  have HP := Lib.hid h
  have d4 : u.cell? ⟨P.p, 4, none⟩ = some (.bool c.en) := h.bk.cell 4
  have f4 := h.bk.frozen 4
  obtain ⟨en, hen⟩ : ∃ en, c.en = en := ⟨_, rfl⟩
  unfold ha1 at hE
  rw [hen] at d4 hE
  have HE := Lib.hid hE
  clear h hen hE
  cases en with
  | true =>
    have e1 := HE.out
    injection e1 with e1 e2
    subst e1; subst e2
    go_enter Tryz.func64, Tryz.ntmps64
    go_wp2_with fail
    go_ret
    exact ⟨rfl, HP.out, Ke.refl _ _⟩
  | false =>
    have e1 := HE.out
    rw [if_neg (by simp)] at e1
    injection e1 with e1 e2
    subst e1; subst e2
    have HF := Lib.hid (And.intro HP.out.end_ (P.kp u 4 (.bool true)))
    go_enter Tryz.func64, Tryz.ntmps64
    go_wp2_with fail
    go_ret
    exact ⟨rfl, HF.out⟩
set_option maxRecDepth 100000 in
set_option maxHeartbeats 2000000 in
theorem pe_budget (h : Pe u P c) (hcr : c.cr ≤ 1073741824) (n : Int) (r : Bool) (c2 : Cn) (hE : bu1 c n = (r, c2)) :
    Calls Tryz.prog 58 #[.pointer (some ⟨P.p, 0, none⟩), .int .i64 n] u fun e u' => e = .returned (.bool r) ∧ Pe u' P c2 ∧ Ke P.bs u u' := by
  have HP := Lib.hid h
  obtain ⟨k, hk⟩ : ∃ k, c.cr = k := ⟨_, rfl⟩
  have d3 : u.cell? ⟨P.p, 3, none⟩ = some (.int .i64 (c.cr : Int)) := h.bk.cell 3
  have f3 := h.bk.frozen 3
  unfold bu1 at hE
  rw [hk] at d3 hE hcr
  have HE := Lib.hid hE
  clear h hE hk
  by_cases h0 : n < 0
  · have e1 := HE.out
    rw [if_pos (.inl h0)] at e1
    injection e1 with e1 e2
    subst e1; subst e2
    have h1 : decide (n < 0) = true := decide_eq_true h0
    clear h0
    go_enter Tryz.func58, Tryz.ntmps58
    go_wp2_with fail
    go_ret
    exact ⟨rfl, HP.out, Ke.refl _ _⟩
  · have h1 : decide (n < 0) = false := decide_eq_false h0
    by_cases h2 : 1073741824 < n
    · have e1 := HE.out
      rw [if_pos (.inr h2)] at e1
      injection e1 with e1 e2
      subst e1; subst e2
      have h3 : decide (1073741824 < n) = true := decide_eq_true h2
      clear h0 h2
      go_enter Tryz.func58, Tryz.ntmps58
      go_wp2_with fail
      go_ret
      exact ⟨rfl, HP.out, Ke.refl _ _⟩
    · have e1 := HE.out
      rw [if_neg (by omega)] at e1
      injection e1 with e1 e2
      subst e1; subst e2
      have h3 : decide (1073741824 < n) = false := decide_eq_false h2
      obtain ⟨m, rfl⟩ : ∃ m : Nat, n = (m : Int) := ⟨n.toNat, by omega⟩
      obtain ⟨z, hz⟩ : ∃ z, min (k + m) 1073741824 = z := ⟨_, rfl⟩
      obtain ⟨y, hy⟩ : ∃ y, min m (1073741824 - k) = y := ⟨_, rfl⟩
      obtain ⟨x, hx⟩ : ∃ x, 1073741824 - k = x := ⟨_, rfl⟩
      have hmin := Lib.hid (show min (m : Int) (x : Int) = (y : Int) by omega)
      have hw1 := (iwrap ((1073741824 : Int) - (k : Int)) x (by omega) (by omega)).1
      obtain ⟨hw2, hw2b⟩ := iwrap ((k : Int) + (y : Int)) z (by omega) (by omega)
      have HF := Lib.hid (And.intro ((HP.out.cred z).ke (Ke.refl [] _).drew (by simp)) ((P.kp u 3 (.int .i64 (z : Int))).trans (Ke.refl P.bs _).drew))
      have e5 : min (k + (m : Int).toNat) 1073741824 = z := by rw [← hz]; rfl
      rw [e5]
      have HC := Lib.hid d3
      have HFZ := Lib.hid f3
      clear hz hy hx h0 h2 e5 HE hcr
      go_enter Tryz.func58, Tryz.ntmps58
      go_upto_region 3 with fail
      go_region
      all_goals
        go_wp2_with fail
        go_ret
        rw [hmin.out]
        first | rw [hw2] | rw [hw2b]
        exact ⟨rfl, HF.out⟩
set_option maxRecDepth 100000 in
set_option maxHeartbeats 2000000 in
theorem pe_flush (h : Pe u P c) (hcr : c.cr ≤ 1073741824) (l : List UInt8) (c2 : Cn) (hE : fl1 c = (l, c2)) (n : Nat) (hn : l.length = n) :
    Calls Tryz.prog 61 #[.pointer (some ⟨P.p, 0, none⟩)] u fun e u' => ∃ A cp, e = .returned (.slice A n cp) ∧ Fs u' u.heap.size [] A n cp l ∧ Pe u' P c2 ∧ Ke P.bs u u' := by
  have HP := Lib.hid h
  obtain ⟨k, hk⟩ : ∃ k, c.cr = k := ⟨_, rfl⟩
  obtain ⟨m, hm⟩ : ∃ m, c.w.length = m := ⟨_, rfl⟩
  have hm1 : m ≤ 1024 := by rw [← hm]; exact h.b.fit
  unfold fl1 at hE
  rw [hk, hm] at hE
  injection hE with e1 e2
  subst e1; subst e2
  rw [List.length_take, hm] at hn
  have hmn : min k m = n := hn
  have HT := Lib.hid (fun v (kv : Ke [] u v) => take_ok P.r1 P.g1 1024 (k : Int) c.w v (h.b.ke kv (by simp) (by simp)))
  have ht : takeM (k : Int) m = n := by unfold takeM; omega
  simp only [hm, ht] at HT
  have hd : c.w.drop n = c.w.drop k := by
    by_cases hkm : k ≤ m
    · rw [show n = k by omega]
    · rw [List.drop_of_length_le (by omega), List.drop_of_length_le (by omega)]
  have htk : c.w.take n = c.w.take k := by
    by_cases hkm : k ≤ m
    · rw [show n = k by omega]
    · rw [List.take_of_length_le (by omega), List.take_of_length_le (by omega)]
  rw [hd, htk] at HT
  have HL := Lib.hid (show (c.w.take k).length = n ∧ n ≤ 1024 ∧ k - m = k - n from ⟨by rw [List.length_take, hm]; exact hmn, by omega, by omega⟩)
  have hw1 := (iwrap ((k : Int) - (n : Int)) (k - n) (by omega) (by omega)).1
  obtain ⟨z, hz⟩ : ∃ z, k - n = z := ⟨_, rfl⟩
  rw [hz] at hw1 HL
  rw [HL.out.2.2]
  have hB := h.bk
  have HC := Lib.hid (fun v (kv : Ke [P.r1] u v) => And.intro ((h.bk.ke kv (by simpa using (dp_of h.nd).c)).cell 2) (And.intro ((h.bk.ke kv (by simpa using (dp_of h.nd).c)).cell 3) ((h.bk.ke kv (by simpa using (dp_of h.nd).c)).frozen 3)))
  have HLT := Lib.hid h.lt
  have HK := Lib.hid hk
  clear h hm hk hm1 hn hmn ht hd htk hz hB hcr
  go_enter Tryz.func61, Tryz.ntmps61
  go_upto_region 1 with fail
  try simp only [List.cons_append, List.nil_append]
  refine wp_region_held_drew (S := fun v => v.cell? ⟨P.p, 2, none⟩ = some (.pointer (some ⟨P.r1, 0, none⟩)) ∧ v.cell? ⟨P.p, 3, none⟩ = some (.int .i64 (k : Int))) (by kernel_rfl) ((⟨(HC.out u.drew (Ke.refl [P.r1] u).drew).1, by rw [← HK.out]; exact (HC.out u.drew (Ke.refl [P.r1] u).drew).2.1⟩)) (fun hHeld => ?_)
  refine take_at (some 4) (i := 0) (v := ?_) rfl rfl (by kernel_rfl) (by kernel_rfl) (by kernel_rfl) (fun _ _ _ h => h) (Or.inl ⟨by kernel_rfl, ?_⟩) hHeld ?_
  rotate_left
  · intro wz hSw; go_simp; try (with_reducible rfl)
  try simp only [Act.put, List.setIfInBounds_toArray, List.set_cons_zero, List.set_cons_succ, List.getElem_toArray, List.getElem_cons_succ, List.getElem_cons_zero]
  refine take_at (some 5) (i := 1) (v := ?_) rfl rfl (by kernel_rfl) (by kernel_rfl) (by kernel_rfl) (fun _ _ _ h => h) (Or.inl ⟨by kernel_rfl, ?_⟩) hHeld ?_
  rotate_left
  · intro wz hSw; obtain ⟨k0, k1⟩ := hSw; go_simp; try (with_reducible rfl)
  try simp only [Act.put, List.setIfInBounds_toArray, List.set_cons_zero, List.set_cons_succ, List.getElem_toArray, List.getElem_cons_succ, List.getElem_cons_zero]
  refine take_at (some 6) (i := 2) (v := ?_) rfl rfl (by kernel_rfl) (by kernel_rfl) (by kernel_rfl) (fun _ _ _ h => h) (Or.inl ⟨by kernel_rfl, ?_⟩) hHeld ?_
  rotate_left
  · intro wz hSw; obtain ⟨k0, k1⟩ := hSw; go_simp; try (with_reducible rfl)
  try simp only [Act.put, List.setIfInBounds_toArray, List.set_cons_zero, List.set_cons_succ, List.getElem_toArray, List.getElem_cons_succ, List.getElem_cons_zero]
  refine take_at (some 7) (i := 3) (v := ?_) rfl rfl (by kernel_rfl) (by kernel_rfl) (by kernel_rfl) (fun _ _ _ h => h) (Or.inl ⟨by kernel_rfl, ?_⟩) hHeld ?_
  rotate_left
  · intro wz hSw; obtain ⟨k0, k1⟩ := hSw; go_simp; try (with_reducible rfl)
  try simp only [Act.put, List.setIfInBounds_toArray, List.set_cons_zero, List.set_cons_succ, List.getElem_toArray, List.getElem_cons_succ, List.getElem_cons_zero]
  refine take_at (some 8) (i := 4) (v := ?_) rfl rfl (by kernel_rfl) (by kernel_rfl) (by kernel_rfl) (fun _ _ _ h => h) (Or.inl ⟨by kernel_rfl, ?_⟩) hHeld ?_
  rotate_left
  · intro wz hSw; go_simp; try (with_reducible rfl)
  try simp only [Act.put, List.setIfInBounds_toArray, List.set_cons_zero, List.set_cons_succ, List.getElem_toArray, List.getElem_cons_succ, List.getElem_cons_zero]
  refine take_at (some 9) (i := 5) (v := ?_) rfl rfl (by kernel_rfl) (by kernel_rfl) (by kernel_rfl) (fun _ _ _ h => h) (Or.inl ⟨by kernel_rfl, ?_⟩) hHeld ?_
  rotate_left
  · intro wz hSw; obtain ⟨k0, k1⟩ := hSw; go_simp; try (with_reducible rfl)
  try simp only [Act.put, List.setIfInBounds_toArray, List.set_cons_zero, List.set_cons_succ, List.getElem_toArray, List.getElem_cons_succ, List.getElem_cons_zero]
  refine take_at (some 10) (i := 6) (v := ?_) rfl rfl (by kernel_rfl) (by kernel_rfl) (by kernel_rfl) (fun _ _ _ h => h) (Or.inl ⟨by kernel_rfl, ?_⟩) hHeld ?_
  rotate_left
  · intro wz hSw; obtain ⟨k0, k1⟩ := hSw; go_simp; try (with_reducible rfl)
  try simp only [Act.put, List.setIfInBounds_toArray, List.set_cons_zero, List.set_cons_succ, List.getElem_toArray, List.getElem_cons_succ, List.getElem_cons_zero]
  refine take_at (some 11) (i := 7) (v := ?_) rfl rfl (by kernel_rfl) (by kernel_rfl) (by kernel_rfl) (fun _ _ _ h => h) (Or.inl ⟨by kernel_rfl, ?_⟩) hHeld ?_
  rotate_left
  · intro wz hSw; obtain ⟨k0, k1⟩ := hSw; go_simp; try (with_reducible rfl)
  try simp only [Act.put, List.setIfInBounds_toArray, List.set_cons_zero, List.set_cons_succ, List.getElem_toArray, List.getElem_cons_succ, List.getElem_cons_zero]
  refine wpAnyH_ready (rs := [8]) (by kernel_rfl) (by simp) (AllReadyH.cons rfl (fun K hK => ?_) AllReadyH.nil)
  rw [if_pos (by kernel_rfl)]
  go_simp
  refine (HT.out u.drew (Ke.refl [] u).drew).mono ?_
  rintro e v1 ⟨rfl, j1, j2, j3⟩
  try dsimp only
  refine hK.out _ _ (⟨(HC.out v1 ((Ke.refl [P.r1] u).drew.trans j3)).1, by rw [← HK.out]; exact (HC.out v1 ((Ke.refl [P.r1] u).drew.trans j3)).2.1⟩) (fun hHeld => ?_)
  try simp only [Act.put, List.setIfInBounds_toArray, List.set_cons_zero, List.set_cons_succ, List.getElem_toArray, List.getElem_cons_succ, List.getElem_cons_zero]
  have J := Lib.hid (show Bk v1 u.heap.size 5 (bcells (c.w.take k)) ∧ Rg v1 P.r1 P.g1 1024 (c.w.drop k) ∧ Ke [P.r1] u v1 from ⟨j1, j2, (Ke.refl [P.r1] u).drew.trans j3⟩)
  clear j1 j2 j3
  refine take_at (some 3) (i := 9) (v := ?_) rfl rfl (by kernel_rfl) (by kernel_rfl) (by kernel_rfl) (fun _ _ _ h => h) (Or.inl ⟨by kernel_rfl, ?_⟩) hHeld ?_
  rotate_left
  · intro wz hSw; go_simp; try (with_reducible rfl)
  try simp only [Act.put, List.setIfInBounds_toArray, List.set_cons_zero, List.set_cons_succ, List.getElem_toArray, List.getElem_cons_succ, List.getElem_cons_zero]
  refine wpAnyH_done (by kernel_rfl) ?_ _
  clear hHeld
  obtain ⟨s, hs⟩ : ∃ s, u.heap.size = s := ⟨_, rfl⟩
  have g3 := (HC.out v1 J.out.2.2).2.2
  have c3 : v1.cell? ⟨P.p, 3, none⟩ = some (.int .i64 (k : Int)) := by rw [← HK.out]; exact (HC.out v1 J.out.2.2).2.1
  clear HC
  go_wp2_with fail
  go_ret
  have hp := HP.out.ringB (q' := c.w.drop k) (J.out.2.2.more (L' := [P.r1, P.g1]) (by simp)) J.out.2.1
  have kk : Ke P.bs u (v1.setCell ⟨P.p, 3, none⟩ (.int .i64 (z : Int))) := (Pl.ka (.inr (.inr (.inr (.inl rfl)))) J.out.2.2).trans (P.kp v1 3 _)
  have hfs := (Fs.bk (B := u.heap.size) J.out.1 (Nat.le_refl _) HL.out.1 (by have := HL.out.2.1; omega)).ke ((Ke.refl [P.p] v1).set (p := ⟨P.p, 3, none⟩) (by simp) (.int .i64 (z : Int))) (fun x hx => by rw [List.mem_singleton.1 hx]; exact HLT.out _ (by simp [Pl.bs]))
  exact ⟨_, _, rfl, hfs, hp.cred z, kk⟩
end
end Go.Proofs.YtndamiocmdnenaaGreat

/- One connection of the program's: next: its contract. (Written by gen_cnn.py.) -/
namespace Go.Proofs.YtndamiocmdnenaaGreat
set_option linter.unusedVariables false
set_option maxRecDepth 100000
set_option linter.unusedSimpArgs false
open Go.RowKit

theorem fr3 {u : World} {q : Nat} {t : TypeId} {a b c : Value} (h : Bk u q t #[a, b, c]) : (u.cell? ⟨q, 0, none⟩ = some a ∧ u.cell? ⟨q, 1, none⟩ = some b ∧ u.cell? ⟨q, 2, none⟩ = some c) ∧ (u.frozen? ⟨q, 0, none⟩ = false ∧ u.frozen? ⟨q, 1, none⟩ = false ∧ u.frozen? ⟨q, 2, none⟩ = false) := ⟨⟨h.cell 0, h.cell 1, h.cell 2⟩, h.frozen 0, h.frozen 1, h.frozen 2⟩
/-- Behind what turned but in L a block has turned that is new. -/
theorem ke_new2 {L : List Nat} {u v w : World} {q : Nat} (h : Ke L u v) (k : Ke [q] v w) (hq : u.heap.size ≤ q) : Ke L u w :=
  ⟨k.os.trans h.os, k.tape.trans h.tape, k.output.trans h.output, Nat.le_trans h.size k.size, fun i hi hL => (k.block i (Nat.lt_of_lt_of_le hi h.size) (fun hx => by rw [List.mem_singleton] at hx; omega)).trans (h.block i hi hL)⟩
theorem st3 {u : World} {q : Nat} {t : TypeId} {a b c : Value} (h : Bk u q t #[a, b, c]) (a' b' c' : Value) : Bk (((u.setCell ⟨q, 0, none⟩ a').setCell ⟨q, 1, none⟩ b').setCell ⟨q, 2, none⟩ c') q t #[a', b', c'] ∧ Ke [q] u (((u.setCell ⟨q, 0, none⟩ a').setCell ⟨q, 1, none⟩ b').setCell ⟨q, 2, none⟩ c') :=
  ⟨((h.set 0 a').set 1 b').set 2 c', (((Ke.refl [q] u).set (p := ⟨q, 0, none⟩) (by simp) _).set (p := ⟨q, 1, none⟩) (by simp) _).set (p := ⟨q, 2, none⟩) (by simp) _⟩
section
variable {u u' : World} {P : Pl} {c : Cn}
set_option maxRecDepth 100000 in
set_option maxHeartbeats 4000000 in
theorem pe_next (h : Pe u P c) (l : List UInt8) (b : Bool) (er : Int) (c2 : Cn) (hE : ne1 c = ((l, b, er), c2)) (n : Nat) (hn : l.length = n) :
    Calls Tryz.prog 53 #[.pointer (some ⟨P.p, 0, none⟩)] u fun e u' => ∃ A cp, e = .returned (.agg #[.slice A n cp, .bool b, .int .i64 er]) ∧ Fs u' u.heap.size [] A n cp l ∧ Pe u' P c2 ∧ Ke P.bs u u' := by
  have HP := Lib.hid h
  obtain ⟨m, hm⟩ : ∃ m, c.q.length = m := ⟨_, rfl⟩
  have hm1 : m ≤ 512 := by rw [← hm]; exact h.a.fit
  obtain ⟨q0, hq0⟩ : ∃ q0, u.heap.size = q0 := ⟨_, rfl⟩
  obtain ⟨v0, hv0⟩ : ∃ v0, u.alloc (.cells #[.slice none 0 0, .bool false, .int .i64 0] 70) = v0 := ⟨_, rfl⟩
  have kv0 : Ke [] u v0 := by rw [← hv0]; exact (Ke.refl [] u).alloc _
  have sv0 : v0.heap.size = q0 + 1 := by rw [← hv0, World.size_alloc, hq0]
  have B0 := Lib.hid (show Bk v0 q0 70 #[.slice none 0 0, .bool false, .int .i64 0] by rw [← hv0, ← hq0]; exact Bk.new _ _ _)
  have HLK := look_ok P.r0 P.g0 512 c.q v0 (h.a.ke kv0 (by simp) (by simp))
  rw [hm] at HLK
  have HL := Lib.hid HLK
  have C1 := Lib.hid (fun v (kv : Ke [] u v) => (h.bk.ke kv (by simp)).cell 1)
  have c1 : v0.cell? ⟨P.p, 1, none⟩ = some (.pointer (some ⟨P.r0, 0, none⟩)) := C1.out v0 kv0
  have HQ := Lib.hid hm
  have HK0 := Lib.hid kv0
  have HS0 := Lib.hid sv0
  have HQ0 := Lib.hid hq0
  have HF := Lib.hid (fun v1 (j : Bk v1 (q0 + 1) 5 (bcells c.q)) => frfirst_ok (some ⟨q0 + 1, 0, none⟩) m m c.q v1 hm (Nat.le_refl _) (by omega) ((Rb.bk j).more (by have := j.lt; omega)))
  have HLT := Lib.hid h.lt
  unfold ne1 at hE
  cases hb : begB c.q with
  | false =>
    rw [if_pos hb] at hE
    injection hE with e1 e2
    injection e1 with e1 e3
    injection e3 with e3 e4
    subst e1; subst e2; subst e3; subst e4
    have hn0 : n = 0 := hn.symm
    subst hn0
    have hz := beg_none _ hb
    simp only [hz, part_nil _ hz, err_bad _ hb, List.length_nil] at HF
    clear h hm hq0 hm1 HLK sv0 kv0 hb hz hn
    go_enter Tryz.func53, Tryz.ntmps53
    go_upto_region 1 with fail
    try rw [hv0]
    try rw [HQ0.out]
    clear hv0
    go_upto_region 2 with (first | (go_at_call 88; (with_reducible refine HL.out.mono ?_); rintro e v1 ⟨rfl, j1, j2⟩; have J1 := Lib.hid (And.intro j1 j2); clear j1 j2; try rw [HS0.out]) | (go_at_call 87; (with_reducible refine (HF.out v1 (by have := J1.out.1; rw [HS0.out] at this; exact this)).mono ?_); rintro e v2 ⟨A2, c2, rfl, j1, j2, j3⟩; have J2 := Lib.hid (And.intro j1 (And.intro j2 j3)); clear j1 j2 j3))
    clear c1
    have K02b := Lib.hid (show Ke [] v0 v2 from J1.out.2.trans (Ke.of J2.out.2.2))
    have K02 := Lib.hid (HK0.out.trans K02b.out)
    obtain ⟨⟨z0, z1, z2⟩, y0, y1, y2⟩ := fr3 (B0.out.ke K02b.out (by simp))
    go_wp2_with fail
    have hst := st3 (B0.out.ke K02b.out (by simp)) (.slice none 0 0) (.bool false) (.int .i64 61)
    try simp only [Exit.inBlock, Exit.then]
    refine bodyPost_ret (results_cell_row rfl _ _ q0 70 _ (0, 0) _ rfl hst.1 Tryz.underlying70 rfl (by kernel_rfl)) rfl ?_
    exact ⟨none, 0, rfl, Fs.nil _ _ _, (HP.out.ke K02.out (by simp)).ke hst.2 (fun x hx => by have h1 := HLT.out x hx; have h2 := HQ0.out; rw [List.mem_singleton]; omega), (ke_new2 K02.out hst.2 (by have := HQ0.out; omega)).nil⟩
  | true =>
    rw [if_neg (by simp [hb])] at hE
    by_cases hz : lenF c.q = 0
    · rw [if_pos hz] at hE
      injection hE with e1 e2
      injection e1 with e1 e3
      injection e3 with e3 e4
      subst e1; subst e2; subst e3; subst e4
      have hn0 : n = 0 := hn.symm
      subst hn0
      simp only [hz, part_nil _ hz, err_ok _ hb, List.length_nil] at HF
      clear h hm hq0 hm1 HLK sv0 kv0 hb hz hn
      go_enter Tryz.func53, Tryz.ntmps53
      go_upto_region 1 with fail
      try rw [hv0]
      try rw [HQ0.out]
      clear hv0
      go_upto_region 2 with (first | (go_at_call 88; (with_reducible refine HL.out.mono ?_); rintro e v1 ⟨rfl, j1, j2⟩; have J1 := Lib.hid (And.intro j1 j2); clear j1 j2; try rw [HS0.out]) | (go_at_call 87; (with_reducible refine (HF.out v1 (by have := J1.out.1; rw [HS0.out] at this; exact this)).mono ?_); rintro e v2 ⟨A2, c2, rfl, j1, j2, j3⟩; have J2 := Lib.hid (And.intro j1 (And.intro j2 j3)); clear j1 j2 j3))
      clear c1
      have K02b := Lib.hid (show Ke [] v0 v2 from J1.out.2.trans (Ke.of J2.out.2.2))
      have K02 := Lib.hid (HK0.out.trans K02b.out)
      obtain ⟨⟨z0, z1, z2⟩, y0, y1, y2⟩ := fr3 (B0.out.ke K02b.out (by simp))
      go_wp2_with fail
      have hst := st3 (B0.out.ke K02b.out (by simp)) (.slice none 0 0) (.bool false) (.int .i64 0)
      try simp only [Exit.inBlock, Exit.then]
      refine bodyPost_ret (results_cell_row rfl _ _ q0 70 _ (0, 0) _ rfl hst.1 Tryz.underlying70 rfl (by kernel_rfl)) rfl ?_
      exact ⟨none, 0, rfl, Fs.nil _ _ _, (HP.out.ke K02.out (by simp)).ke hst.2 (fun x hx => by have h1 := HLT.out x hx; have h2 := HQ0.out; rw [List.mem_singleton]; omega), (ke_new2 K02.out hst.2 (by have := HQ0.out; omega)).nil⟩
    · rw [if_neg hz] at hE
      injection hE with e1 e2
      injection e1 with e1 e3
      injection e3 with e3 e4
      subst e1; subst e2; subst e3; subst e4
      have HTK := Lib.hid (fun v (kv : Ke [] u v) => take_ok P.r0 P.g0 512 ((lenF c.q : Nat) : Int) c.q v (h.a.ke kv (by simp) (by simp)))
      obtain ⟨k, hk⟩ : ∃ k, lenF c.q = k := ⟨_, rfl⟩
      have hkm : k ≤ m := by rw [← hk, ← hm]; exact len_le _
      have ht : takeM (k : Int) m = k := by unfold takeM; omega
      simp only [hk, hm, ht] at HTK
      simp only [hk, err_ok _ hb, hn] at HF
      rw [hk] at hz ⊢
      have hz2 : ((k : Int) == 0) = false := by rw [beq_eq_false_iff_ne]; omega
      have HN := Lib.hid hn
      clear h hm hq0 hm1 HLK sv0 kv0 hb hk hkm ht hn
      go_enter Tryz.func53, Tryz.ntmps53
      go_upto_region 1 with fail
      try rw [hv0]
      try rw [HQ0.out]
      clear hv0
      go_upto_region 2 with (first | (go_at_call 88; (with_reducible refine HL.out.mono ?_); rintro e v1 ⟨rfl, j1, j2⟩; have J1 := Lib.hid (And.intro j1 j2); clear j1 j2; try rw [HS0.out]) | (go_at_call 87; (with_reducible refine (HF.out v1 (by have := J1.out.1; rw [HS0.out] at this; exact this)).mono ?_); rintro e v2 ⟨A2, c2, rfl, j1, j2, j3⟩; have J2 := Lib.hid (And.intro j1 (And.intro j2 j3)); clear j1 j2 j3))
      clear c1
      have K02b := Lib.hid (show Ke [] v0 v2 from J1.out.2.trans (Ke.of J2.out.2.2))
      have K02 := Lib.hid (HK0.out.trans K02b.out)
      have c2 : v2.cell? ⟨P.p, 1, none⟩ = some (.pointer (some ⟨P.r0, 0, none⟩)) := C1.out v2 K02.out
      have hz3 : ¬ k = 0 := hz
      clear hz
      go_upto_region 5 with (go_at_call 75; (with_reducible refine (HTK.out v2 K02.out).mono ?_); rintro e v3 ⟨rfl, j1, j2, j3⟩; have J3 := Lib.hid (And.intro j2 j3); clear j1 j2 j3)
      clear c2
      have hq3 : q0 ∉ [P.r0] := by
        have h1 := HLT.out P.r0 (by simp [Pl.bs])
        have h2 := HQ0.out
        rw [List.mem_singleton]; omega
      have B3 := Lib.hid ((B0.out.ke K02b.out (by simp)).ke J3.out.2 hq3)
      obtain ⟨⟨z0, z1, z2⟩, y0, y1, y2⟩ := fr3 B3.out
      go_wp2_with fail
      have hst := st3 B3.out (.slice A2 n c2) (.bool true) (.int .i64 0)
      try simp only [Exit.inBlock, Exit.then]
      refine bodyPost_ret (results_cell_row rfl _ _ q0 70 _ (0, 0) _ rfl hst.1 Tryz.underlying70 rfl (by kernel_rfl)) rfl ?_
      have kk : Ke P.bs u v3 := K02.out.nil.trans (Pl.ka (.inr (.inr (.inl rfl))) J3.out.2)
      have hpe := (HP.out.ke K02.out (by simp)).ringA (J3.out.2.more (L' := [P.r0, P.g0]) (by simp)) J3.out.1
      have hfs : Fs v3 (q0 + 1) [] A2 n c2 (partF c.q) := ((OB.fs J2.out.1 J2.out.2.1 HN.out).low (by have h1 := HS0.out; have h2 := J1.out.2.size; omega)).ke J3.out.2 (fun x hx => by rw [List.mem_singleton.1 hx]; have h1 := HLT.out P.r0 (by simp [Pl.bs]); have h2 := HQ0.out; omega)
      have hq4 : ∀ x ∈ [q0], x < q0 + 1 := fun x hx => by rw [List.mem_singleton.1 hx]; omega
      have hq5 : ∀ x ∈ P.bs, x ∉ [q0] := fun x hx => by have h1 := HLT.out x hx; have h2 := HQ0.out; rw [List.mem_singleton]; omega
      have hku := ke_new2 kk hst.2 (by have := HQ0.out; omega)
      exact ⟨A2, c2, rfl, (hfs.ke hst.2 hq4).low (by have := HQ0.out; omega), hpe.ke hst.2 hq5, hku⟩
end
end Go.Proofs.YtndamiocmdnenaaGreat
