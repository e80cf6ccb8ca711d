/- those: its contracts, one for each of the closures that are handed to it. (Written by gen_lz2.py.) -/
import Derived.Test.YtpbobmiajjgekaaG8
import Derived.BigQuiet
namespace Go.Proofs.Ytpbobmiajjgekaa
set_option linter.unusedVariables false
set_option maxRecDepth 100000
set_option linter.unusedSimpArgs false
open Go.RowKit

/-- What those tells: pointers to the leases L. -/
def ThP (ad : ByteArray → Nat) (L : List Ls) (u : World) (e : Ending) (u' : World) : Prop := ∃ A c, e = .returned (.slice A L.length c) ∧ OP u' u.heap.size A c (L.map fun x => ad x.name) ∧ Below u.heap.size u u'
theorem filter_snoc {α : Type} (p : α → Bool) (l : List α) (x : α) : (l ++ [x]).filter p = l.filter p ++ (if p x = true then [x] else []) := by
  rw [List.filter_append]
  congr 1
  cases hp : p x <;> simp [hp]

set_option maxRecDepth 100000 in
set_option maxHeartbeats 4000000 in
theorem those_leave {u : World} {gb mb : Nat} {ad : ByteArray → Nat} {g most : Int} {b : Bo} (h : Lz u gb mb ad g most b) (p1 p2 p3 : Nat) (so : Ls → Bool)
    (HC : ∀ u', Below u.heap.size u u' → ∀ x ∈ b.l, Calls Try.prog 44 #[.pointer (some ⟨ad x.name, 0, none⟩), .pointer (some ⟨p1, 0, none⟩), .pointer (some ⟨p2, 0, none⟩), .pointer (some ⟨p3, 0, none⟩)] u' fun e w' => e = .returned (.bool (so x)) ∧ Below u'.heap.size u' w') :
    Calls Try.prog 43 #[.pointer (some ⟨gb, 0, none⟩), .func (.func 44) #[] #[.pointer (some ⟨p1, 0, none⟩), .pointer (some ⟨p2, 0, none⟩), .pointer (some ⟨p3, 0, none⟩)]] u (ThP ad (b.l.filter so) u) := by
  have HZ := Lib.hid h
  have HS := Lib.hid (lsorted_ok h)
  have HKY := Lib.hid (fun w => lkeys_ok mb w)
  have HCC := Lib.hid HC
  have c3 : u.cell? ⟨gb, 3, none⟩ = some (.map (some mb)) := h.blk.cell 3
  obtain ⟨l, nx⟩ := b
  obtain ⟨n, hn⟩ : ∃ n, l.length = n := ⟨_, rfl⟩
  have HN := Lib.hid hn
  have hf : n ≤ 64 := by rw [← hn]; exact h.ok.few
  have HNM := Lib.hid (show (l.map (·.name)).length = n by rw [List.length_map, hn])
  dsimp only at HS HCC HZ ⊢
  obtain ⟨N, hNN⟩ : ∃ N, l.map (·.name) = N := ⟨_, rfl⟩
  have HNN := Lib.hid hNN
  rw [hNN] at HS HNM
  unfold SrP at HS
  rw [HNM.out] at HS
  clear h HC hn hNN
  go_enter Try.func43, Try.ntmps43
  go_wp2_with (first
    | (go_at_call 56; (with_reducible refine (HKY.out _).mono ?_); rintro e w1 ⟨rfl, hw⟩; rw [hw]; clear hw)
    | (go_at_call 55; (with_reducible refine HS.out.mono ?_); rintro e w2 ⟨A, c, rfl, hr, hb, hc1, hc2⟩; have HR := Lib.hid hr; have HB := Lib.hid (((Below.refl u.heap.size u).alloc (Nat.le_refl _) (.cells #[.map (some mb)] 58)).trans (hb.mono (by simp))); clear hr hb))
  clear HS HKY c3
  have HOK := Lib.hid HZ.out.ok
  go_loopw [5, 16] (fun v5 v16 wr => ∃ (i m : Nat) (A2 : Option Addr) (c2 : Nat), i ≤ n ∧ m ≤ i ∧ v5 = .slice A2 m c2 ∧ v16 = .int .i64 (i : Int) ∧ Hid (((l.take i).filter so).length = m) ∧ Hid (OP wr w2.heap.size A2 c2 (((l.take i).filter so).map fun x => ad x.name)) ∧ Hid (Below w2.heap.size w2 wr)) (fun v5 v16 _ => n - (intOf v16).toNat)
  case atStart => exact ⟨0, 0, none, 0, by omega, by omega, rfl, rfl, Lib.hid (by simp), Lib.hid (by rw [List.take_zero]; exact Ow.nil _ _), Lib.hid (Below.refl _ _)⟩
  case round =>
    obtain ⟨i, m, A2, c2, hi, hm, rfl, rfl, HM, HO, HW⟩ := hrel
    by_cases hi1 : i < n
    · have hi2 : (i : Int) < (n : Int) := by omega
      have HBU := Lib.hid (HB.out.trans (HW.out.mono HB.out.size))
      have HZW := Lib.hid (HZ.out.on HBU.out)
      obtain ⟨bx, o, s, rfl, hs, hcl⟩ := HR.out.at_ i (by rw [HNM.out]; exact hi1)
      have c0 := hcl wr HW.out
      have hlx : i < l.length := by rw [HN.out]; exact hi1
      obtain ⟨x, hx⟩ : ∃ x, l[i]? = some x := ⟨_, List.getElem?_eq_getElem hlx⟩
      have hsx : x.name = s := by
        rw [← HNN.out, List.getElem?_map, hx] at hs
        injection hs
      subst hsx
      have hxm : x ∈ l := List.mem_of_getElem? hx
      have c3 : wr.cell? ⟨gb, 3, none⟩ = some (.map (some mb)) := HZW.out.blk.cell 3
      have hlk := HZW.out.mp.hit1 (s := x.name) (b := ad x.name) (List.mem_map.2 ⟨x, hxm, rfl⟩)
      have HCX := Lib.hid (HCC.out wr HBU.out x hxm)
      obtain ⟨q, hq⟩ : ∃ q, so x = q := ⟨_, rfl⟩
      have HT := Lib.hid (show (l.take (i + 1)).filter so = (l.take i).filter so ++ (if q = true then [x] else []) by rw [List.take_add_one, hx, show (some x).toList = [x] from rfl, filter_snoc, hq])
      simp only [hq] at HCX
      clear hq hx hs hcl hxm hlx
      obtain ⟨ax, hax⟩ : ∃ ax, ad x.name = ax := ⟨_, rfl⟩
      have HAX := Lib.hid hax
      rw [hax] at HCX hlk
      clear hax
      cases q with
      | false =>
        go_wp2_with (go_at_call 44; (with_reducible refine HCX.out.mono ?_); rintro e w4 ⟨rfl, hb⟩; have HW4 := Lib.hid (HW.out.trans (hb.mono HW.out.size)); have HO4 := Lib.hid (HO.out.on hb); clear hb)
        go_roundw
        case rel => exact ⟨i + 1, m, A2, c2, by omega, by omega, rfl, by go_num, Lib.hid (by rw [HT.out]; simpa using HM.out), Lib.hid (by rw [HT.out]; simpa using HO4.out), HW4⟩
        case measure => simp [intOf]; omega
      | true =>
        go_upto_region 7 with (go_at_call 44; (with_reducible refine HCX.out.mono ?_); rintro e w4 ⟨rfl, hb⟩; have HW4 := Lib.hid (HW.out.trans (hb.mono HW.out.size)); have HO4 := Lib.hid (HO.out.on hb); clear hb)
        have HOA := Lib.hid (HO4.out.on ((Below.refl w4.heap.size w4).alloc (Nat.le_refl _) (.cells #[.pointer (some ⟨ax, 0, none⟩)] 61)))
        have HRX := Lib.hid (Rw.bk (f := pcs) (k := 1) (x := ax) (Bk.new w4 61 #[.pointer (some ⟨ax, 0, none⟩)]))
        have HBA := Lib.hid (HW4.out.alloc HW4.out.size (.cells #[.pointer (some ⟨ax, 0, none⟩)] 61))
        have HMM := Lib.hid (show (((l.take i).filter so).map fun x => ad x.name).length = m by rw [List.length_map, HM.out])
        clear c0 c3 hlk
        go_wp2_with (at_builtin; refine wp_rows0 roP rfl (.tmp 29) (.tmp 31) rfl m rfl HMM.out HOA.out [ax] (some ⟨w4.heap.size, 0, none⟩) 1 1 rfl rfl (fun h => by cases h) HRX.out (by omega) HBA.out.size (m + 1) rfl ?_; intro A9 c9 w9 ho9 hg9 hb9; have HO9 := Lib.hid ho9; have HB9 := Lib.hid (HBA.out.trans hb9); clear ho9 hg9 hb9)
        go_roundw
        case rel => exact ⟨i + 1, m + 1, A9, c9, by omega, by omega, by first | rfl | go_num, by go_num, Lib.hid (by rw [HT.out, List.length_append, HM.out]; rfl), Lib.hid (by rw [HT.out, List.map_append]; have := HO9.out; rw [← HAX.out] at this; exact this), HB9⟩
        case measure => simp [intOf]; omega
    · have hi2 : ¬ (i : Int) < (n : Int) := by omega
      have HTL := Lib.hid (show l.take i = l from List.take_of_length_le (by rw [HN.out]; omega))
      go_wp2
      go_ret
      have hO := HO.out
      have hM := HM.out
      rw [HTL.out] at hO hM
      exact ⟨A2, c2, by rw [hM]; rfl, hO.weak HB.out.size, HB.out.trans (HW.out.mono HB.out.size)⟩

set_option maxRecDepth 100000 in
set_option maxHeartbeats 4000000 in
theorem those_lapse1 {u : World} {gb mb : Nat} {ad : ByteArray → Nat} {g most : Int} {b : Bo} (h : Lz u gb mb ad g most b) (p1 : Nat) (so : Ls → Bool)
    (HC : ∀ u', Below u.heap.size u u' → ∀ x ∈ b.l, Calls Try.prog 47 #[.pointer (some ⟨ad x.name, 0, none⟩), .pointer (some ⟨p1, 0, none⟩)] u' fun e w' => e = .returned (.bool (so x)) ∧ Below u'.heap.size u' w') :
    Calls Try.prog 43 #[.pointer (some ⟨gb, 0, none⟩), .func (.func 47) #[] #[.pointer (some ⟨p1, 0, none⟩)]] u (ThP ad (b.l.filter so) u) := by
  have HZ := Lib.hid h
  have HS := Lib.hid (lsorted_ok h)
  have HKY := Lib.hid (fun w => lkeys_ok mb w)
  have HCC := Lib.hid HC
  have c3 : u.cell? ⟨gb, 3, none⟩ = some (.map (some mb)) := h.blk.cell 3
  obtain ⟨l, nx⟩ := b
  obtain ⟨n, hn⟩ : ∃ n, l.length = n := ⟨_, rfl⟩
  have HN := Lib.hid hn
  have hf : n ≤ 64 := by rw [← hn]; exact h.ok.few
  have HNM := Lib.hid (show (l.map (·.name)).length = n by rw [List.length_map, hn])
  dsimp only at HS HCC HZ ⊢
  obtain ⟨N, hNN⟩ : ∃ N, l.map (·.name) = N := ⟨_, rfl⟩
  have HNN := Lib.hid hNN
  rw [hNN] at HS HNM
  unfold SrP at HS
  rw [HNM.out] at HS
  clear h HC hn hNN
  go_enter Try.func43, Try.ntmps43
  go_wp2_with (first
    | (go_at_call 56; (with_reducible refine (HKY.out _).mono ?_); rintro e w1 ⟨rfl, hw⟩; rw [hw]; clear hw)
    | (go_at_call 55; (with_reducible refine HS.out.mono ?_); rintro e w2 ⟨A, c, rfl, hr, hb, hc1, hc2⟩; have HR := Lib.hid hr; have HB := Lib.hid (((Below.refl u.heap.size u).alloc (Nat.le_refl _) (.cells #[.map (some mb)] 58)).trans (hb.mono (by simp))); clear hr hb))
  clear HS HKY c3
  have HOK := Lib.hid HZ.out.ok
  go_loopw [5, 16] (fun v5 v16 wr => ∃ (i m : Nat) (A2 : Option Addr) (c2 : Nat), i ≤ n ∧ m ≤ i ∧ v5 = .slice A2 m c2 ∧ v16 = .int .i64 (i : Int) ∧ Hid (((l.take i).filter so).length = m) ∧ Hid (OP wr w2.heap.size A2 c2 (((l.take i).filter so).map fun x => ad x.name)) ∧ Hid (Below w2.heap.size w2 wr)) (fun v5 v16 _ => n - (intOf v16).toNat)
  case atStart => exact ⟨0, 0, none, 0, by omega, by omega, rfl, rfl, Lib.hid (by simp), Lib.hid (by rw [List.take_zero]; exact Ow.nil _ _), Lib.hid (Below.refl _ _)⟩
  case round =>
    obtain ⟨i, m, A2, c2, hi, hm, rfl, rfl, HM, HO, HW⟩ := hrel
    by_cases hi1 : i < n
    · have hi2 : (i : Int) < (n : Int) := by omega
      have HBU := Lib.hid (HB.out.trans (HW.out.mono HB.out.size))
      have HZW := Lib.hid (HZ.out.on HBU.out)
      obtain ⟨bx, o, s, rfl, hs, hcl⟩ := HR.out.at_ i (by rw [HNM.out]; exact hi1)
      have c0 := hcl wr HW.out
      have hlx : i < l.length := by rw [HN.out]; exact hi1
      obtain ⟨x, hx⟩ : ∃ x, l[i]? = some x := ⟨_, List.getElem?_eq_getElem hlx⟩
      have hsx : x.name = s := by
        rw [← HNN.out, List.getElem?_map, hx] at hs
        injection hs
      subst hsx
      have hxm : x ∈ l := List.mem_of_getElem? hx
      have c3 : wr.cell? ⟨gb, 3, none⟩ = some (.map (some mb)) := HZW.out.blk.cell 3
      have hlk := HZW.out.mp.hit1 (s := x.name) (b := ad x.name) (List.mem_map.2 ⟨x, hxm, rfl⟩)
      have HCX := Lib.hid (HCC.out wr HBU.out x hxm)
      obtain ⟨q, hq⟩ : ∃ q, so x = q := ⟨_, rfl⟩
      have HT := Lib.hid (show (l.take (i + 1)).filter so = (l.take i).filter so ++ (if q = true then [x] else []) by rw [List.take_add_one, hx, show (some x).toList = [x] from rfl, filter_snoc, hq])
      simp only [hq] at HCX
      clear hq hx hs hcl hxm hlx
      obtain ⟨ax, hax⟩ : ∃ ax, ad x.name = ax := ⟨_, rfl⟩
      have HAX := Lib.hid hax
      rw [hax] at HCX hlk
      clear hax
      cases q with
      | false =>
        go_wp2_with (go_at_call 47; (with_reducible refine HCX.out.mono ?_); rintro e w4 ⟨rfl, hb⟩; have HW4 := Lib.hid (HW.out.trans (hb.mono HW.out.size)); have HO4 := Lib.hid (HO.out.on hb); clear hb)
        go_roundw
        case rel => exact ⟨i + 1, m, A2, c2, by omega, by omega, rfl, by go_num, Lib.hid (by rw [HT.out]; simpa using HM.out), Lib.hid (by rw [HT.out]; simpa using HO4.out), HW4⟩
        case measure => simp [intOf]; omega
      | true =>
        go_upto_region 7 with (go_at_call 47; (with_reducible refine HCX.out.mono ?_); rintro e w4 ⟨rfl, hb⟩; have HW4 := Lib.hid (HW.out.trans (hb.mono HW.out.size)); have HO4 := Lib.hid (HO.out.on hb); clear hb)
        have HOA := Lib.hid (HO4.out.on ((Below.refl w4.heap.size w4).alloc (Nat.le_refl _) (.cells #[.pointer (some ⟨ax, 0, none⟩)] 61)))
        have HRX := Lib.hid (Rw.bk (f := pcs) (k := 1) (x := ax) (Bk.new w4 61 #[.pointer (some ⟨ax, 0, none⟩)]))
        have HBA := Lib.hid (HW4.out.alloc HW4.out.size (.cells #[.pointer (some ⟨ax, 0, none⟩)] 61))
        have HMM := Lib.hid (show (((l.take i).filter so).map fun x => ad x.name).length = m by rw [List.length_map, HM.out])
        clear c0 c3 hlk
        go_wp2_with (at_builtin; refine wp_rows0 roP rfl (.tmp 29) (.tmp 31) rfl m rfl HMM.out HOA.out [ax] (some ⟨w4.heap.size, 0, none⟩) 1 1 rfl rfl (fun h => by cases h) HRX.out (by omega) HBA.out.size (m + 1) rfl ?_; intro A9 c9 w9 ho9 hg9 hb9; have HO9 := Lib.hid ho9; have HB9 := Lib.hid (HBA.out.trans hb9); clear ho9 hg9 hb9)
        go_roundw
        case rel => exact ⟨i + 1, m + 1, A9, c9, by omega, by omega, by first | rfl | go_num, by go_num, Lib.hid (by rw [HT.out, List.length_append, HM.out]; rfl), Lib.hid (by rw [HT.out, List.map_append]; have := HO9.out; rw [← HAX.out] at this; exact this), HB9⟩
        case measure => simp [intOf]; omega
    · have hi2 : ¬ (i : Int) < (n : Int) := by omega
      have HTL := Lib.hid (show l.take i = l from List.take_of_length_le (by rw [HN.out]; omega))
      go_wp2
      go_ret
      have hO := HO.out
      have hM := HM.out
      rw [HTL.out] at hO hM
      exact ⟨A2, c2, by rw [hM]; rfl, hO.weak HB.out.size, HB.out.trans (HW.out.mono HB.out.size)⟩

set_option maxRecDepth 100000 in
set_option maxHeartbeats 4000000 in
theorem those_lapse2 {u : World} {gb mb : Nat} {ad : ByteArray → Nat} {g most : Int} {b : Bo} (h : Lz u gb mb ad g most b) (p1 p2 : Nat) (so : Ls → Bool)
    (HC : ∀ u', Below u.heap.size u u' → ∀ x ∈ b.l, Calls Try.prog 48 #[.pointer (some ⟨ad x.name, 0, none⟩), .pointer (some ⟨p1, 0, none⟩), .pointer (some ⟨p2, 0, none⟩)] u' fun e w' => e = .returned (.bool (so x)) ∧ Below u'.heap.size u' w') :
    Calls Try.prog 43 #[.pointer (some ⟨gb, 0, none⟩), .func (.func 48) #[] #[.pointer (some ⟨p1, 0, none⟩), .pointer (some ⟨p2, 0, none⟩)]] u (ThP ad (b.l.filter so) u) := by
  have HZ := Lib.hid h
  have HS := Lib.hid (lsorted_ok h)
  have HKY := Lib.hid (fun w => lkeys_ok mb w)
  have HCC := Lib.hid HC
  have c3 : u.cell? ⟨gb, 3, none⟩ = some (.map (some mb)) := h.blk.cell 3
  obtain ⟨l, nx⟩ := b
  obtain ⟨n, hn⟩ : ∃ n, l.length = n := ⟨_, rfl⟩
  have HN := Lib.hid hn
  have hf : n ≤ 64 := by rw [← hn]; exact h.ok.few
  have HNM := Lib.hid (show (l.map (·.name)).length = n by rw [List.length_map, hn])
  dsimp only at HS HCC HZ ⊢
  obtain ⟨N, hNN⟩ : ∃ N, l.map (·.name) = N := ⟨_, rfl⟩
  have HNN := Lib.hid hNN
  rw [hNN] at HS HNM
  unfold SrP at HS
  rw [HNM.out] at HS
  clear h HC hn hNN
  go_enter Try.func43, Try.ntmps43
  go_wp2_with (first
    | (go_at_call 56; (with_reducible refine (HKY.out _).mono ?_); rintro e w1 ⟨rfl, hw⟩; rw [hw]; clear hw)
    | (go_at_call 55; (with_reducible refine HS.out.mono ?_); rintro e w2 ⟨A, c, rfl, hr, hb, hc1, hc2⟩; have HR := Lib.hid hr; have HB := Lib.hid (((Below.refl u.heap.size u).alloc (Nat.le_refl _) (.cells #[.map (some mb)] 58)).trans (hb.mono (by simp))); clear hr hb))
  clear HS HKY c3
  have HOK := Lib.hid HZ.out.ok
  go_loopw [5, 16] (fun v5 v16 wr => ∃ (i m : Nat) (A2 : Option Addr) (c2 : Nat), i ≤ n ∧ m ≤ i ∧ v5 = .slice A2 m c2 ∧ v16 = .int .i64 (i : Int) ∧ Hid (((l.take i).filter so).length = m) ∧ Hid (OP wr w2.heap.size A2 c2 (((l.take i).filter so).map fun x => ad x.name)) ∧ Hid (Below w2.heap.size w2 wr)) (fun v5 v16 _ => n - (intOf v16).toNat)
  case atStart => exact ⟨0, 0, none, 0, by omega, by omega, rfl, rfl, Lib.hid (by simp), Lib.hid (by rw [List.take_zero]; exact Ow.nil _ _), Lib.hid (Below.refl _ _)⟩
  case round =>
    obtain ⟨i, m, A2, c2, hi, hm, rfl, rfl, HM, HO, HW⟩ := hrel
    by_cases hi1 : i < n
    · have hi2 : (i : Int) < (n : Int) := by omega
      have HBU := Lib.hid (HB.out.trans (HW.out.mono HB.out.size))
      have HZW := Lib.hid (HZ.out.on HBU.out)
      obtain ⟨bx, o, s, rfl, hs, hcl⟩ := HR.out.at_ i (by rw [HNM.out]; exact hi1)
      have c0 := hcl wr HW.out
      have hlx : i < l.length := by rw [HN.out]; exact hi1
      obtain ⟨x, hx⟩ : ∃ x, l[i]? = some x := ⟨_, List.getElem?_eq_getElem hlx⟩
      have hsx : x.name = s := by
        rw [← HNN.out, List.getElem?_map, hx] at hs
        injection hs
      subst hsx
      have hxm : x ∈ l := List.mem_of_getElem? hx
      have c3 : wr.cell? ⟨gb, 3, none⟩ = some (.map (some mb)) := HZW.out.blk.cell 3
      have hlk := HZW.out.mp.hit1 (s := x.name) (b := ad x.name) (List.mem_map.2 ⟨x, hxm, rfl⟩)
      have HCX := Lib.hid (HCC.out wr HBU.out x hxm)
      obtain ⟨q, hq⟩ : ∃ q, so x = q := ⟨_, rfl⟩
      have HT := Lib.hid (show (l.take (i + 1)).filter so = (l.take i).filter so ++ (if q = true then [x] else []) by rw [List.take_add_one, hx, show (some x).toList = [x] from rfl, filter_snoc, hq])
      simp only [hq] at HCX
      clear hq hx hs hcl hxm hlx
      obtain ⟨ax, hax⟩ : ∃ ax, ad x.name = ax := ⟨_, rfl⟩
      have HAX := Lib.hid hax
      rw [hax] at HCX hlk
      clear hax
      cases q with
      | false =>
        go_wp2_with (go_at_call 48; (with_reducible refine HCX.out.mono ?_); rintro e w4 ⟨rfl, hb⟩; have HW4 := Lib.hid (HW.out.trans (hb.mono HW.out.size)); have HO4 := Lib.hid (HO.out.on hb); clear hb)
        go_roundw
        case rel => exact ⟨i + 1, m, A2, c2, by omega, by omega, rfl, by go_num, Lib.hid (by rw [HT.out]; simpa using HM.out), Lib.hid (by rw [HT.out]; simpa using HO4.out), HW4⟩
        case measure => simp [intOf]; omega
      | true =>
        go_upto_region 7 with (go_at_call 48; (with_reducible refine HCX.out.mono ?_); rintro e w4 ⟨rfl, hb⟩; have HW4 := Lib.hid (HW.out.trans (hb.mono HW.out.size)); have HO4 := Lib.hid (HO.out.on hb); clear hb)
        have HOA := Lib.hid (HO4.out.on ((Below.refl w4.heap.size w4).alloc (Nat.le_refl _) (.cells #[.pointer (some ⟨ax, 0, none⟩)] 61)))
        have HRX := Lib.hid (Rw.bk (f := pcs) (k := 1) (x := ax) (Bk.new w4 61 #[.pointer (some ⟨ax, 0, none⟩)]))
        have HBA := Lib.hid (HW4.out.alloc HW4.out.size (.cells #[.pointer (some ⟨ax, 0, none⟩)] 61))
        have HMM := Lib.hid (show (((l.take i).filter so).map fun x => ad x.name).length = m by rw [List.length_map, HM.out])
        clear c0 c3 hlk
        go_wp2_with (at_builtin; refine wp_rows0 roP rfl (.tmp 29) (.tmp 31) rfl m rfl HMM.out HOA.out [ax] (some ⟨w4.heap.size, 0, none⟩) 1 1 rfl rfl (fun h => by cases h) HRX.out (by omega) HBA.out.size (m + 1) rfl ?_; intro A9 c9 w9 ho9 hg9 hb9; have HO9 := Lib.hid ho9; have HB9 := Lib.hid (HBA.out.trans hb9); clear ho9 hg9 hb9)
        go_roundw
        case rel => exact ⟨i + 1, m + 1, A9, c9, by omega, by omega, by first | rfl | go_num, by go_num, Lib.hid (by rw [HT.out, List.length_append, HM.out]; rfl), Lib.hid (by rw [HT.out, List.map_append]; have := HO9.out; rw [← HAX.out] at this; exact this), HB9⟩
        case measure => simp [intOf]; omega
    · have hi2 : ¬ (i : Int) < (n : Int) := by omega
      have HTL := Lib.hid (show l.take i = l from List.take_of_length_le (by rw [HN.out]; omega))
      go_wp2
      go_ret
      have hO := HO.out
      have hM := HM.out
      rw [HTL.out] at hO hM
      exact ⟨A2, c2, by rw [hM]; rfl, hO.weak HB.out.size, HB.out.trans (HW.out.mono HB.out.size)⟩

set_option maxRecDepth 100000 in
set_option maxHeartbeats 4000000 in
theorem those_all {u : World} {gb mb : Nat} {ad : ByteArray → Nat} {g most : Int} {b : Bo} (h : Lz u gb mb ad g most b) (so : Ls → Bool)
    (HC : ∀ u', Below u.heap.size u u' → ∀ x ∈ b.l, Calls Try.prog 54 #[.pointer (some ⟨ad x.name, 0, none⟩)] u' fun e w' => e = .returned (.bool (so x)) ∧ Below u'.heap.size u' w') :
    Calls Try.prog 43 #[.pointer (some ⟨gb, 0, none⟩), .func (.func 54) #[] #[]] u (ThP ad (b.l.filter so) u) := by
  have HZ := Lib.hid h
  have HS := Lib.hid (lsorted_ok h)
  have HKY := Lib.hid (fun w => lkeys_ok mb w)
  have HCC := Lib.hid HC
  have c3 : u.cell? ⟨gb, 3, none⟩ = some (.map (some mb)) := h.blk.cell 3
  obtain ⟨l, nx⟩ := b
  obtain ⟨n, hn⟩ : ∃ n, l.length = n := ⟨_, rfl⟩
  have HN := Lib.hid hn
  have hf : n ≤ 64 := by rw [← hn]; exact h.ok.few
  have HNM := Lib.hid (show (l.map (·.name)).length = n by rw [List.length_map, hn])
  dsimp only at HS HCC HZ ⊢
  obtain ⟨N, hNN⟩ : ∃ N, l.map (·.name) = N := ⟨_, rfl⟩
  have HNN := Lib.hid hNN
  rw [hNN] at HS HNM
  unfold SrP at HS
  rw [HNM.out] at HS
  clear h HC hn hNN
  go_enter Try.func43, Try.ntmps43
  go_wp2_with (first
    | (go_at_call 56; (with_reducible refine (HKY.out _).mono ?_); rintro e w1 ⟨rfl, hw⟩; rw [hw]; clear hw)
    | (go_at_call 55; (with_reducible refine HS.out.mono ?_); rintro e w2 ⟨A, c, rfl, hr, hb, hc1, hc2⟩; have HR := Lib.hid hr; have HB := Lib.hid (((Below.refl u.heap.size u).alloc (Nat.le_refl _) (.cells #[.map (some mb)] 58)).trans (hb.mono (by simp))); clear hr hb))
  clear HS HKY c3
  have HOK := Lib.hid HZ.out.ok
  go_loopw [5, 16] (fun v5 v16 wr => ∃ (i m : Nat) (A2 : Option Addr) (c2 : Nat), i ≤ n ∧ m ≤ i ∧ v5 = .slice A2 m c2 ∧ v16 = .int .i64 (i : Int) ∧ Hid (((l.take i).filter so).length = m) ∧ Hid (OP wr w2.heap.size A2 c2 (((l.take i).filter so).map fun x => ad x.name)) ∧ Hid (Below w2.heap.size w2 wr)) (fun v5 v16 _ => n - (intOf v16).toNat)
  case atStart => exact ⟨0, 0, none, 0, by omega, by omega, rfl, rfl, Lib.hid (by simp), Lib.hid (by rw [List.take_zero]; exact Ow.nil _ _), Lib.hid (Below.refl _ _)⟩
  case round =>
    obtain ⟨i, m, A2, c2, hi, hm, rfl, rfl, HM, HO, HW⟩ := hrel
    by_cases hi1 : i < n
    · have hi2 : (i : Int) < (n : Int) := by omega
      have HBU := Lib.hid (HB.out.trans (HW.out.mono HB.out.size))
      have HZW := Lib.hid (HZ.out.on HBU.out)
      obtain ⟨bx, o, s, rfl, hs, hcl⟩ := HR.out.at_ i (by rw [HNM.out]; exact hi1)
      have c0 := hcl wr HW.out
      have hlx : i < l.length := by rw [HN.out]; exact hi1
      obtain ⟨x, hx⟩ : ∃ x, l[i]? = some x := ⟨_, List.getElem?_eq_getElem hlx⟩
      have hsx : x.name = s := by
        rw [← HNN.out, List.getElem?_map, hx] at hs
        injection hs
      subst hsx
      have hxm : x ∈ l := List.mem_of_getElem? hx
      have c3 : wr.cell? ⟨gb, 3, none⟩ = some (.map (some mb)) := HZW.out.blk.cell 3
      have hlk := HZW.out.mp.hit1 (s := x.name) (b := ad x.name) (List.mem_map.2 ⟨x, hxm, rfl⟩)
      have HCX := Lib.hid (HCC.out wr HBU.out x hxm)
      obtain ⟨q, hq⟩ : ∃ q, so x = q := ⟨_, rfl⟩
      have HT := Lib.hid (show (l.take (i + 1)).filter so = (l.take i).filter so ++ (if q = true then [x] else []) by rw [List.take_add_one, hx, show (some x).toList = [x] from rfl, filter_snoc, hq])
      simp only [hq] at HCX
      clear hq hx hs hcl hxm hlx
      obtain ⟨ax, hax⟩ : ∃ ax, ad x.name = ax := ⟨_, rfl⟩
      have HAX := Lib.hid hax
      rw [hax] at HCX hlk
      clear hax
      cases q with
      | false =>
        go_wp2_with (go_at_call 54; (with_reducible refine HCX.out.mono ?_); rintro e w4 ⟨rfl, hb⟩; have HW4 := Lib.hid (HW.out.trans (hb.mono HW.out.size)); have HO4 := Lib.hid (HO.out.on hb); clear hb)
        go_roundw
        case rel => exact ⟨i + 1, m, A2, c2, by omega, by omega, rfl, by go_num, Lib.hid (by rw [HT.out]; simpa using HM.out), Lib.hid (by rw [HT.out]; simpa using HO4.out), HW4⟩
        case measure => simp [intOf]; omega
      | true =>
        go_upto_region 7 with (go_at_call 54; (with_reducible refine HCX.out.mono ?_); rintro e w4 ⟨rfl, hb⟩; have HW4 := Lib.hid (HW.out.trans (hb.mono HW.out.size)); have HO4 := Lib.hid (HO.out.on hb); clear hb)
        have HOA := Lib.hid (HO4.out.on ((Below.refl w4.heap.size w4).alloc (Nat.le_refl _) (.cells #[.pointer (some ⟨ax, 0, none⟩)] 61)))
        have HRX := Lib.hid (Rw.bk (f := pcs) (k := 1) (x := ax) (Bk.new w4 61 #[.pointer (some ⟨ax, 0, none⟩)]))
        have HBA := Lib.hid (HW4.out.alloc HW4.out.size (.cells #[.pointer (some ⟨ax, 0, none⟩)] 61))
        have HMM := Lib.hid (show (((l.take i).filter so).map fun x => ad x.name).length = m by rw [List.length_map, HM.out])
        clear c0 c3 hlk
        go_wp2_with (at_builtin; refine wp_rows0 roP rfl (.tmp 29) (.tmp 31) rfl m rfl HMM.out HOA.out [ax] (some ⟨w4.heap.size, 0, none⟩) 1 1 rfl rfl (fun h => by cases h) HRX.out (by omega) HBA.out.size (m + 1) rfl ?_; intro A9 c9 w9 ho9 hg9 hb9; have HO9 := Lib.hid ho9; have HB9 := Lib.hid (HBA.out.trans hb9); clear ho9 hg9 hb9)
        go_roundw
        case rel => exact ⟨i + 1, m + 1, A9, c9, by omega, by omega, by first | rfl | go_num, by go_num, Lib.hid (by rw [HT.out, List.length_append, HM.out]; rfl), Lib.hid (by rw [HT.out, List.map_append]; have := HO9.out; rw [← HAX.out] at this; exact this), HB9⟩
        case measure => simp [intOf]; omega
    · have hi2 : ¬ (i : Int) < (n : Int) := by omega
      have HTL := Lib.hid (show l.take i = l from List.take_of_length_le (by rw [HN.out]; omega))
      go_wp2
      go_ret
      have hO := HO.out
      have hM := HM.out
      rw [HTL.out] at hO hM
      exact ⟨A2, c2, by rw [hM]; rfl, hO.weak HB.out.size, HB.out.trans (HW.out.mono HB.out.size)⟩
end Go.Proofs.Ytpbobmiajjgekaa
