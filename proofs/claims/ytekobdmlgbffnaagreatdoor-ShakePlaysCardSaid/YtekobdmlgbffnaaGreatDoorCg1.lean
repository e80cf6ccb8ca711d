/- config: quota, nameOfTenant, nameOfToken, rightNet, rightToken, all, rising, rightTenant, Right: their contracts. (Written by gen_cg1.py.) -/
import Derived.Test.YtekobdmlgbffnaaGreatDoorG2
import Derived.Test.YtekobdmlgbffnaaGreatDoorG3
import Derived.BigQuiet
import Derived.Deep.QuietTactic
namespace Go.Proofs.YtekobdmlgbffnaaGreatDoor
set_option linter.unusedVariables false
set_option maxRecDepth 100000
set_option linter.unusedSimpArgs false
open Go.RowKit

theorem bytesLess_tot : ∀ (x y : List UInt8), (Op.bytesLess x y || x == y) = !Op.bytesLess y x
  | [], [] => by simp [Op.bytesLess]
  | _ :: _, [] => by simp [Op.bytesLess]
  | [], _ :: _ => by simp [Op.bytesLess]
  | a :: x, b :: y => by
    have ih := bytesLess_tot x y
    simp only [Op.bytesLess]
    by_cases h : a = b
    · subst h
      have h0 : decide (a < a) = false := by simp
      simp [h0, ← ih]
    · have h1 : (a == b) = false := by simpa using h
      have h2 : (b == a) = false := by simpa using fun k => h k.symm
      have h3 : (decide (a < b)) = !decide (b < a) := by
        have hn : a.toNat ≠ b.toNat := fun k => h (UInt8.toNat_inj.1 k)
        by_cases hl : a < b
        · have : ¬ b < a := by rw [UInt8.lt_iff_toNat_lt] at hl ⊢; omega
          simp [hl, this]
        · have : b < a := by rw [UInt8.lt_iff_toNat_lt] at hl ⊢; omega
          simp [hl, this]
      simp [h1, h2, h3, h]
theorem leS (a b : ByteArray) : (Op.bytesLess a.toList b.toList || a.toList == b.toList) = !ltS b a := bytesLess_tot _ _

set_option maxHeartbeats 400000 in
theorem quota_ok (n : Int) (w : World) : Calls Tryz.prog 81 #[.int .i64 n] w fun e w' => e = .returned (.bool (quoB n)) ∧ w = w' := by
  obtain ⟨v, hv⟩ : ∃ v, quoB n = v := ⟨_, rfl⟩
  rw [hv]
  unfold quoB at hv
  by_cases h1 : 0 ≤ n
  · by_cases h2 : n ≤ 8
    · have e : v = true := by rw [← hv]; simp; omega
      subst e
      clear hv
      go_enter Tryz.func81, Tryz.ntmps81
      go_wp2
      go_ret
      exact ⟨rfl, rfl⟩
    · have e : v = false := by rw [← hv]; simp; omega
      subst e
      clear hv
      go_enter Tryz.func81, Tryz.ntmps81
      go_wp2
      go_ret
      exact ⟨rfl, rfl⟩
  · have e : v = false := by rw [← hv]; simp; omega
    subst e
    clear hv
    go_enter Tryz.func81, Tryz.ntmps81
    go_wp2
    go_ret
    exact ⟨rfl, rfl⟩

theorem nmt_ok (nm : ByteArray) (a b : Int) (An Ak : Option Addr) (n cn k ck : Nat) (w : World) : Calls Tryz.prog 39 #[.agg #[.string nm, .int .i64 a, .int .i64 b, .slice An n cn, .slice Ak k ck]] w fun e w' => e = .returned (.string nm) ∧ Below w.heap.size w w' := by
  go_enter Tryz.func39, Tryz.ntmps39
  go_wp2
  go_ret
  exact ⟨rfl, by go_grown⟩
theorem nmk_ok (nm s : ByteArray) (t : Int) (w : World) : Calls Tryz.prog 43 #[.agg #[.string nm, .string s, .int .i64 t]] w fun e w' => e = .returned (.string nm) ∧ Below w.heap.size w w' := by
  go_enter Tryz.func43, Tryz.ntmps43
  go_wp2
  go_ret
  exact ⟨rfl, by go_grown⟩

theorem slash_empty (a : Nat) (b : Int) : (!(slashL a b).isEmpty) = rightB a b := by
  unfold slashL
  cases h : rightB a b with
  | true => simp
  | false => rfl
set_option maxHeartbeats 1000000 in
theorem rnet_ok (a : Nat) (b : Int) (w : World) (hn : a < 4294967296) : Calls Tryz.prog 83 #[.agg #[.int .u32 (a : Int), .int .i64 b]] w fun e w' => e = .returned (.bool (netB ⟨a, b⟩)) ∧ Below w.heap.size w w' := by
  have HS := Lib.hid (fun u => slash_ok a b u hn)
  have HE := Lib.hid (slash_empty a b)
  obtain ⟨s, hs⟩ : ∃ s, bs (slashL a b) = s := ⟨_, rfl⟩
  have HE2 := Lib.hid (show (!s.toList.isEmpty) = netB ⟨a, b⟩ by rw [← hs, bs_list]; exact HE.out)
  rw [hs] at HS
  clear hs
  go_enter Tryz.func83, Tryz.ntmps83
  go_wp2_with (go_at_call 51; refine (HS.out _).mono ?_; rintro e u1 ⟨rfl, hb⟩)
  go_ret
  refine ⟨?_, Below.trans (Below.alloc (Below.refl _ _) (Nat.le_refl _) _) (hb.mono (by rw [World.size_alloc]; omega))⟩
  rw [← HE2.out]; rfl

set_option maxHeartbeats 2000000 in
theorem rtok_ok (nm s : ByteArray) (u : Int) (w : World) : Calls Tryz.prog 86 #[.agg #[.string nm, .string s, .int .i64 u]] w fun e w' => e = .returned (.bool (tokB ⟨nm, s, u⟩)) ∧ Below w.heap.size w w' := by
  have he : (decide (1 ≤ s.size)) = !s.toList.isEmpty := by
    rw [ByteArray.toList_eq]
    have e : s.size = s.data.toList.length := rfl
    rw [e]
    cases s.data.toList with
    | nil => rfl
    | cons x r => simp
  have hi : (decide (s.size ≤ 32)) = decide ((s.size : Int) ≤ 32) := by
    apply decide_eq_decide.2; omega
  obtain ⟨v, hv⟩ : ∃ v, tokB ⟨nm, s, u⟩ = v := ⟨_, rfl⟩
  rw [hv]
  simp only [tokB, he, hi] at hv
  clear he hi
  cases h1 : s.toList.isEmpty with
  | true =>
    have e : v = false := by rw [← hv]; simp [h1]
    subst e
    clear hv
    go_enter Tryz.func86, Tryz.ntmps86
    go_wp2
    go_ret
    exact ⟨rfl, by go_grown⟩
  | false =>
    cases h2 : decide ((s.size : Int) ≤ 32) with
    | false =>
      have e : v = false := by rw [← hv]; simp [h1, h2]
      subst e
      clear hv
      go_enter Tryz.func86, Tryz.ntmps86
      go_wp2
      go_ret
      exact ⟨rfl, by go_grown⟩
    | true =>
      cases h3 : decide (0 ≤ u) with
      | false =>
        have e : v = false := by rw [← hv]; simp [h1, h2, h3]
        subst e
        clear hv
        go_enter Tryz.func86, Tryz.ntmps86
        go_wp2
        go_ret
        exact ⟨rfl, by go_grown⟩
      | true =>
        cases h4 : decide (u ≤ 1099511627776) with
        | false =>
          have e : v = false := by rw [← hv]; simp [h1, h2, h3, h4]
          subst e
          clear hv
          go_enter Tryz.func86, Tryz.ntmps86
          go_wp2
          go_ret
          exact ⟨rfl, by go_grown⟩
        | true =>
          have e : v = true := by rw [← hv]; simp [h1, h2, h3, h4]
          subst e
          clear hv
          go_enter Tryz.func86, Tryz.ntmps86
          go_wp2
          go_ret
          exact ⟨rfl, by go_grown⟩

set_option maxRecDepth 100000 in
set_option maxHeartbeats 4000000 in
theorem allN_ok (A : Option Addr) (l : List Nt) (n c : Nat) (w : World) (h : RN w A l) (hlt : ∀ x ∈ l, x.addr < 4294967296) (hn : l.length = n) (hf : n ≤ 9223372036854775807) :
    Calls Tryz.prog 82 #[.slice A n c, .func (.func 83) #[] #[]] w fun e w' => e = .returned (.bool (l.all fun x => netB x)) ∧ Below w.heap.size w w' := by
  have HR := Lib.hid h
  have HN := Lib.hid hn
  obtain ⟨R, hR⟩ : ∃ R, l.all (fun x => netB x) = R := ⟨_, rfl⟩
  rw [hR]
  have HA := Lib.hid hR
  have HLT := Lib.hid hlt
  clear h hn hR hlt
  go_enter Tryz.func82, Tryz.ntmps82
  go_wp2
  go_loopw [9] (fun v9 wr => ∃ (i : Nat), i ≤ n ∧ v9 = .int .i64 (i : Int) ∧ Hid (R = (l.drop i).all fun x => netB x) ∧ Hid (Below w.heap.size w wr)) (fun v9 _ => n - (intOf v9).toNat)
  case atStart => exact ⟨0, by omega, rfl, Lib.hid (by rw [List.drop_zero]; exact HA.out.symm), Lib.hid (by go_grown)⟩
  case round =>
    obtain ⟨i, hi, rfl, HD, HB⟩ := hrel
    by_cases hi1 : i < n
    · have hi2 : (i : Int) < (n : Int) := by omega
      obtain ⟨b, o, x, rfl, hx, hc⟩ := HR.out.at2 i (by rw [HN.out]; exact hi1)
      obtain ⟨c0, c1⟩ := hc wr HB.out
      have HST := Lib.hid (show (l.drop i).all (fun x => netB x) = ((netB x) && (l.drop (i + 1)).all fun x => netB x) by
        rw [List.drop_eq_getElem_cons (by rw [HN.out]; exact hi1), List.all_cons, (List.getElem?_eq_some_iff.1 hx).2])
      obtain ⟨xa, xb⟩ := x
      have HF := Lib.hid (fun u (_ : Below w.heap.size w u) => rnet_ok xa xb u (HLT.out _ (List.mem_of_getElem? hx)))
      clear hc hx
      cases hp : netB ⟨xa, xb⟩ with
      | true =>
        rw [hp] at HST HF
        clear hp
        go_wp2_with (go_at_call 83; refine (HF.out _ (by have hbb := HB.out; exact hbb.alloc hbb.size _)).mono ?_; rintro e u2 ⟨rfl, hb2⟩; have HB2 := Lib.hid (show Below w.heap.size w u2 from (HB.out.alloc HB.out.size _).trans (hb2.mono (by rw [World.size_alloc]; have := HB.out.size; omega))); clear hb2)
        go_roundw
        case rel => exact ⟨i + 1, by omega, by go_num, Lib.hid (by rw [HD.out, HST.out, Bool.true_and]), HB2⟩
        case measure => simp [intOf]; omega
      | false =>
        rw [hp] at HST HF
        clear hp
        go_wp2_with (go_at_call 83; refine (HF.out _ (by have hbb := HB.out; exact hbb.alloc hbb.size _)).mono ?_; rintro e u2 ⟨rfl, hb2⟩; have HB2 := Lib.hid (show Below w.heap.size w u2 from (HB.out.alloc HB.out.size _).trans (hb2.mono (by rw [World.size_alloc]; have := HB.out.size; omega))); clear hb2)
        go_ret
        exact ⟨by rw [HD.out, HST.out]; rfl, HB2.out⟩
    · have hi2 : ¬ (i : Int) < (n : Int) := by omega
      go_wp2
      go_ret
      exact ⟨by rw [HD.out, List.drop_eq_nil_of_le (by rw [HN.out]; omega)]; rfl, HB.out⟩

set_option maxRecDepth 100000 in
set_option maxHeartbeats 4000000 in
theorem allK_ok (A : Option Addr) (l : List Tk) (n c : Nat) (w : World) (h : RK w A l) (hn : l.length = n) (hf : n ≤ 9223372036854775807) :
    Calls Tryz.prog 85 #[.slice A n c, .func (.func 86) #[] #[]] w fun e w' => e = .returned (.bool (l.all fun x => tokB x)) ∧ Below w.heap.size w w' := by
  have HR := Lib.hid h
  have HN := Lib.hid hn
  obtain ⟨R, hR⟩ : ∃ R, l.all (fun x => tokB x) = R := ⟨_, rfl⟩
  rw [hR]
  have HA := Lib.hid hR
  clear h hn hR 
  go_enter Tryz.func85, Tryz.ntmps85
  go_wp2
  go_loopw [9] (fun v9 wr => ∃ (i : Nat), i ≤ n ∧ v9 = .int .i64 (i : Int) ∧ Hid (R = (l.drop i).all fun x => tokB x) ∧ Hid (Below w.heap.size w wr)) (fun v9 _ => n - (intOf v9).toNat)
  case atStart => exact ⟨0, by omega, rfl, Lib.hid (by rw [List.drop_zero]; exact HA.out.symm), Lib.hid (by go_grown)⟩
  case round =>
    obtain ⟨i, hi, rfl, HD, HB⟩ := hrel
    by_cases hi1 : i < n
    · have hi2 : (i : Int) < (n : Int) := by omega
      obtain ⟨b, o, x, rfl, hx, hc⟩ := HR.out.at3 i (by rw [HN.out]; exact hi1)
      obtain ⟨c0, c1, c2⟩ := hc wr HB.out
      have HST := Lib.hid (show (l.drop i).all (fun x => tokB x) = ((tokB x) && (l.drop (i + 1)).all fun x => tokB x) by
        rw [List.drop_eq_getElem_cons (by rw [HN.out]; exact hi1), List.all_cons, (List.getElem?_eq_some_iff.1 hx).2])
      obtain ⟨xa, xb, xc⟩ := x
      have HF := Lib.hid (fun u (_ : Below w.heap.size w u) => rtok_ok xa xb xc u)
      clear hc hx
      cases hp : tokB ⟨xa, xb, xc⟩ with
      | true =>
        rw [hp] at HST HF
        clear hp
        go_wp2_with (go_at_call 86; refine (HF.out _ (by have hbb := HB.out; exact hbb.alloc hbb.size _)).mono ?_; rintro e u2 ⟨rfl, hb2⟩; have HB2 := Lib.hid (show Below w.heap.size w u2 from (HB.out.alloc HB.out.size _).trans (hb2.mono (by rw [World.size_alloc]; have := HB.out.size; omega))); clear hb2)
        go_roundw
        case rel => exact ⟨i + 1, by omega, by go_num, Lib.hid (by rw [HD.out, HST.out, Bool.true_and]), HB2⟩
        case measure => simp [intOf]; omega
      | false =>
        rw [hp] at HST HF
        clear hp
        go_wp2_with (go_at_call 86; refine (HF.out _ (by have hbb := HB.out; exact hbb.alloc hbb.size _)).mono ?_; rintro e u2 ⟨rfl, hb2⟩; have HB2 := Lib.hid (show Below w.heap.size w u2 from (HB.out.alloc HB.out.size _).trans (hb2.mono (by rw [World.size_alloc]; have := HB.out.size; omega))); clear hb2)
        go_ret
        exact ⟨by rw [HD.out, HST.out]; rfl, HB2.out⟩
    · have hi2 : ¬ (i : Int) < (n : Int) := by omega
      go_wp2
      go_ret
      exact ⟨by rw [HD.out, List.drop_eq_nil_of_le (by rw [HN.out]; omega)]; rfl, HB.out⟩

set_option maxRecDepth 100000 in
set_option maxHeartbeats 4000000 in
theorem risK_ok (A : Option Addr) (l : List Tk) (n c : Nat) (w : World) (h : RK w A l) (hsz : ∀ x ∈ l, (x.name).size ≤ 140737488355328) (hn : l.length = n) (hf : n ≤ 9223372036854775807) :
    Calls Tryz.prog 84 #[.slice A n c, .func (.func 43) #[] #[]] w fun e w' => e = .returned (.bool (rise ByteArray.empty (l.map fun x => x.name))) ∧ Below w.heap.size w w' := by
  have HR := Lib.hid h
  have HN := Lib.hid hn
  have HSZ := Lib.hid hsz
  obtain ⟨R, hR⟩ : ∃ R, rise ByteArray.empty (l.map fun x => x.name) = R := ⟨_, rfl⟩
  rw [hR]
  have HA := Lib.hid hR
  clear h hn hR hsz
  go_enter Tryz.func84, Tryz.ntmps84
  go_wp2
  go_loopw [5, 11] (fun v5 v11 wr => ∃ (i : Nat) (last : ByteArray), i ≤ n ∧ v5 = .string last ∧ v11 = .int .i64 (i : Int) ∧ Hid (R = rise last ((l.drop i).map fun x => x.name)) ∧ Hid (Below w.heap.size w wr)) (fun _ v11 _ => n - (intOf v11).toNat)
  case atStart => exact ⟨0, ByteArray.empty, by omega, rfl, rfl, Lib.hid (by rw [List.drop_zero]; exact HA.out.symm), Lib.hid (by go_grown)⟩
  case round =>
    obtain ⟨i, last, hi, rfl, rfl, HD, HB⟩ := hrel
    by_cases hi1 : i < n
    · have hi2 : (i : Int) < (n : Int) := by omega
      obtain ⟨b, o, x, rfl, hx, hc⟩ := HR.out.at3 i (by rw [HN.out]; exact hi1)
      obtain ⟨c0, c1, c2⟩ := hc wr HB.out
      have hsx := HSZ.out x (List.mem_of_getElem? hx)
      have hst : rise last ((l.drop i).map fun x => x.name) = (nameB (x.name) && ltS last (x.name) && rise (x.name) ((l.drop (i + 1)).map fun x => x.name)) := by
        rw [List.drop_eq_getElem_cons (by rw [HN.out]; exact hi1), List.map_cons, (List.getElem?_eq_some_iff.1 hx).2]; rfl
      obtain ⟨xn, xs, xu⟩ := x
      dsimp only at hst hsx c0 c1 c2
      have HST := Lib.hid hst
      have HF := Lib.hid (fun u => nmk_ok xn xs xu u)
      have HNM := Lib.hid (fun u => name_ok xn u hsx)
      have hle := leS xn last
      clear hc hx hst hsx
      cases hp : nameB xn with
      | false =>
        rw [hp] at HST HNM
        clear hp hle
        go_wp2_with (first | (go_at_call 43; refine (HF.out _).mono ?_; rintro e u2 ⟨rfl, hb2⟩) | (go_at_call 80; refine (HNM.out _).mono ?_; rintro e u3 ⟨rfl, rfl⟩))
        go_ret
        exact ⟨by rw [HD.out, HST.out]; rfl, (HB.out.alloc HB.out.size _).trans (hb2.mono (by rw [World.size_alloc]; have := HB.out.size; omega))⟩
      | true =>
        rw [hp] at HST HNM
        clear hp
        cases hq : ltS last xn with
        | false =>
          rw [hq] at HST hle
          simp only [Bool.not_false] at hle
          clear hq
          go_wp2_with (first | (go_at_call 43; refine (HF.out _).mono ?_; rintro e u2 ⟨rfl, hb2⟩) | (go_at_call 80; refine (HNM.out _).mono ?_; rintro e u3 ⟨rfl, rfl⟩))
          go_ret
          exact ⟨by rw [HD.out, HST.out]; rfl, (HB.out.alloc HB.out.size _).trans (hb2.mono (by rw [World.size_alloc]; have := HB.out.size; omega))⟩
        | true =>
          rw [hq] at HST hle
          simp only [Bool.not_true] at hle
          clear hq
          go_wp2_with (first | (go_at_call 43; refine (HF.out _).mono ?_; rintro e u2 ⟨rfl, hb2⟩) | (go_at_call 80; refine (HNM.out _).mono ?_; rintro e u3 ⟨rfl, rfl⟩))
          go_roundw
          case rel => exact ⟨i + 1, xn, by omega, rfl, by go_num, Lib.hid (by rw [HD.out, HST.out]; rfl), Lib.hid ((HB.out.alloc HB.out.size _).trans (hb2.mono (by rw [World.size_alloc]; have := HB.out.size; omega)))⟩
          case measure => simp [intOf]; omega
    · have hi2 : ¬ (i : Int) < (n : Int) := by omega
      go_wp2
      go_ret
      exact ⟨by rw [HD.out, List.drop_eq_nil_of_le (by rw [HN.out]; omega)]; rfl, HB.out⟩

set_option maxRecDepth 100000 in
set_option maxHeartbeats 4000000 in
theorem risT_ok (A : Option Addr) (l : List Tv) (n c : Nat) (w : World) (h : RT w A l) (hsz : ∀ x ∈ l, (x.t.name).size ≤ 140737488355328) (hn : l.length = n) (hf : n ≤ 9223372036854775807) :
    Calls Tryz.prog 44 #[.slice A n c, .func (.func 39) #[] #[]] w fun e w' => e = .returned (.bool (rise ByteArray.empty (l.map fun x => x.t.name))) ∧ Below w.heap.size w w' := by
  have HR := Lib.hid h
  have HN := Lib.hid hn
  have HSZ := Lib.hid hsz
  obtain ⟨R, hR⟩ : ∃ R, rise ByteArray.empty (l.map fun x => x.t.name) = R := ⟨_, rfl⟩
  rw [hR]
  have HA := Lib.hid hR
  clear h hn hR hsz
  go_enter Tryz.func44, Tryz.ntmps44
  go_wp2
  go_loopw [5, 11] (fun v5 v11 wr => ∃ (i : Nat) (last : ByteArray), i ≤ n ∧ v5 = .string last ∧ v11 = .int .i64 (i : Int) ∧ Hid (R = rise last ((l.drop i).map fun x => x.t.name)) ∧ Hid (Below w.heap.size w wr)) (fun _ v11 _ => n - (intOf v11).toNat)
  case atStart => exact ⟨0, ByteArray.empty, by omega, rfl, rfl, Lib.hid (by rw [List.drop_zero]; exact HA.out.symm), Lib.hid (by go_grown)⟩
  case round =>
    obtain ⟨i, last, hi, rfl, rfl, HD, HB⟩ := hrel
    by_cases hi1 : i < n
    · have hi2 : (i : Int) < (n : Int) := by omega
      obtain ⟨b, o, x, rfl, hx, h1, hc⟩ := HR.out.at5 i (by rw [HN.out]; exact hi1)
      obtain ⟨c0, c1, c2, c3, c4⟩ := hc wr HB.out
      have hsx := HSZ.out x (List.mem_of_getElem? hx)
      have hst : rise last ((l.drop i).map fun x => x.t.name) = (nameB (x.t.name) && ltS last (x.t.name) && rise (x.t.name) ((l.drop (i + 1)).map fun x => x.t.name)) := by
        rw [List.drop_eq_getElem_cons (by rw [HN.out]; exact hi1), List.map_cons, (List.getElem?_eq_some_iff.1 hx).2]; rfl
      obtain ⟨⟨xn, xa, xb, xl, xk⟩, An, cn, Ak, ck⟩ := x
      dsimp only at hst hsx c0 c1 c2 c3 c4
      have HST := Lib.hid hst
      have HF := Lib.hid (fun u => nmt_ok xn xa xb An Ak xl.length cn xk.length ck u)
      have HNM := Lib.hid (fun u => name_ok xn u hsx)
      have hle := leS xn last
      clear hc hx hst hsx
      cases hp : nameB xn with
      | false =>
        rw [hp] at HST HNM
        clear hp hle
        go_wp2_with (first | (go_at_call 39; refine (HF.out _).mono ?_; rintro e u2 ⟨rfl, hb2⟩) | (go_at_call 80; refine (HNM.out _).mono ?_; rintro e u3 ⟨rfl, rfl⟩))
        go_ret
        exact ⟨by rw [HD.out, HST.out]; rfl, (HB.out.alloc HB.out.size _).trans (hb2.mono (by rw [World.size_alloc]; have := HB.out.size; omega))⟩
      | true =>
        rw [hp] at HST HNM
        clear hp
        cases hq : ltS last xn with
        | false =>
          rw [hq] at HST hle
          simp only [Bool.not_false] at hle
          clear hq
          go_wp2_with (first | (go_at_call 39; refine (HF.out _).mono ?_; rintro e u2 ⟨rfl, hb2⟩) | (go_at_call 80; refine (HNM.out _).mono ?_; rintro e u3 ⟨rfl, rfl⟩))
          go_ret
          exact ⟨by rw [HD.out, HST.out]; rfl, (HB.out.alloc HB.out.size _).trans (hb2.mono (by rw [World.size_alloc]; have := HB.out.size; omega))⟩
        | true =>
          rw [hq] at HST hle
          simp only [Bool.not_true] at hle
          clear hq
          go_wp2_with (first | (go_at_call 39; refine (HF.out _).mono ?_; rintro e u2 ⟨rfl, hb2⟩) | (go_at_call 80; refine (HNM.out _).mono ?_; rintro e u3 ⟨rfl, rfl⟩))
          go_roundw
          case rel => exact ⟨i + 1, xn, by omega, rfl, by go_num, Lib.hid (by rw [HD.out, HST.out]; rfl), Lib.hid ((HB.out.alloc HB.out.size _).trans (hb2.mono (by rw [World.size_alloc]; have := HB.out.size; omega)))⟩
          case measure => simp [intOf]; omega
    · have hi2 : ¬ (i : Int) < (n : Int) := by omega
      go_wp2
      go_ret
      exact ⟨by rw [HD.out, List.drop_eq_nil_of_le (by rw [HN.out]; omega)]; rfl, HB.out⟩

end Go.Proofs.YtekobdmlgbffnaaGreatDoor
