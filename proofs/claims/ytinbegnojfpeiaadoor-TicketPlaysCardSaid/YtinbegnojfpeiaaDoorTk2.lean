/- Where a good ticket stands: the closures, slices.IndexFunc, of, shown: their contracts. (Written by gen_tk2.py.) -/
import Derived.Test.YtinbegnojfpeiaaDoorG9
namespace Go.Proofs.YtinbegnojfpeiaaDoor
set_option linter.unusedVariables false
set_option maxRecDepth 100000
set_option linter.unusedSimpArgs false
open Go.RowKit

theorem nm_dec (a b : ByteArray) : decide (a.data.toList = b.data.toList) = nmQ a b := by
  rw [Bool.eq_iff_iff, decide_eq_true_iff, nmQ_iff]
  constructor
  · intro h
    cases a; cases b
    simp only at h
    rw [Array.ext' h]
  · intro h; rw [h]
set_option maxRecDepth 100000 in
set_option maxHeartbeats 1000000 in
theorem of1_ok (x : Tq) (p : Nat) (v : Int) (u : World) (cp : u.cell? ⟨p, 0, none⟩ = some (.int .i64 v)) (hp : p < u.heap.size) :
    Calls Tryd.prog 36 #[.agg (tqc x), .pointer (some ⟨p, 0, none⟩)] u fun e u' => e = .returned (.bool (visT v x.k)) ∧ Below u.heap.size u u' := by
  obtain ⟨⟨xv, xn, xt, xe⟩, tx, g, c⟩ := x
  have c1 : (u.alloc (.cells #[.int .i64 xv, .string xn, .string xt, .int .i64 xe, .slice (some ⟨g, 0, none⟩) tx.size c] 59)).cell? ⟨p, 0, none⟩ = some (.int .i64 v) := ((Below.refl u.heap.size u).alloc (Nat.le_refl _) _).cell (p := ⟨p, 0, none⟩) hp |>.trans cp
  have HL := Lib.hid (show Below u.heap.size u (u.alloc (.cells #[.int .i64 xv, .string xn, .string xt, .int .i64 xe, .slice (some ⟨g, 0, none⟩) tx.size c] 59)) from (Below.refl u.heap.size u).alloc (Nat.le_refl _) _)
  obtain ⟨e, he⟩ : ∃ e, (xv == v) = e := ⟨_, rfl⟩
  have HE := Lib.hid (show visT v (Tq.k ⟨⟨xv, xn, xt, xe⟩, tx, g, c⟩) = e from he)
  go_enter Tryd.func36, Tryd.ntmps36
  go_wp2
  go_ret
  exact ⟨by rw [HE.out]; rfl, HL.out⟩
set_option maxRecDepth 100000 in
set_option maxHeartbeats 1000000 in
theorem sh1_ok (x : Tq) (p sb sc : Nat) (s : ByteArray) (u : World) (cp : u.cell? ⟨p, 0, none⟩ = some (.slice (some ⟨sb, 0, none⟩) s.size sc)) (hp : p < u.heap.size) (hs : Tb u sb s) (hx : Tb u x.g x.tx) (h1 : s.size ≤ 1099511627776) (h2 : x.tx.size ≤ 1099511627776) :
    Calls Tryd.prog 33 #[.agg (tqc x), .pointer (some ⟨p, 0, none⟩)] u fun e u' => e = .returned (.bool (texT s x.k)) ∧ Below u.heap.size u u' := by
  obtain ⟨⟨xv, xn, xt, xe⟩, tx, g, c⟩ := x
  dsimp only at hx h2
  have c1 : (u.alloc (.cells #[.int .i64 xv, .string xn, .string xt, .int .i64 xe, .slice (some ⟨g, 0, none⟩) tx.size c] 59)).cell? ⟨p, 0, none⟩ = some (.slice (some ⟨sb, 0, none⟩) s.size sc) := ((Below.refl u.heap.size u).alloc (Nat.le_refl _) _).cell (p := ⟨p, 0, none⟩) hp |>.trans cp
  have hL : Below u.heap.size u (u.alloc (.cells #[.int .i64 xv, .string xn, .string xt, .int .i64 xe, .slice (some ⟨g, 0, none⟩) tx.size c] 59)) := (Below.refl u.heap.size u).alloc (Nat.le_refl _) _
  have HL := Lib.hid hL
  obtain ⟨e, he⟩ : ∃ e, nmQ tx s = e := ⟨_, rfl⟩
  have HE := Lib.hid (show texT s (Tq.k ⟨⟨xv, xn, xt, xe⟩, tx, g, c⟩) = e from he)
  have HS := Lib.hid (same_ok (some ⟨g, 0, none⟩) tx.size c tx.data.toList (some ⟨sb, 0, none⟩) s.size sc s.data.toList e (u.alloc (.cells #[.int .i64 xv, .string xn, .string xt, .int .i64 xe, .slice (some ⟨g, 0, none⟩) tx.size c] 59)) rfl rfl h2 h1 (hx.on hL).rb (hs.on hL).rb ((nm_dec _ _).trans he))
  clear hx hs hL he
  go_enter Tryd.func33, Tryd.ntmps33
  go_wp2_with (go_at_call 34; (with_reducible refine HS.out.mono ?_); rintro e u2 ⟨rfl, hb⟩; have H2 := Lib.hid (HL.out.trans (hb.mono HL.out.size)); clear hb)
  go_ret
  exact ⟨by rw [HE.out]; rfl, H2.out⟩
set_option maxRecDepth 100000 in
set_option maxHeartbeats 2000000 in
theorem index_of (F : Tk5 → Bool) (A : Option Addr) (l : List Tq) (n c p : Nat) (w : World) (h : Rw 5 tqc w A l) (hn : l.length = n) (hf : n ≤ 1099511627776)
    (hc : ∀ u, Below w.heap.size w u → ∀ x ∈ l, Calls Tryd.prog 36 #[.agg (tqc x), .pointer (some ⟨p, 0, none⟩)] u fun e u' => e = .returned (.bool (F x.k)) ∧ Below u.heap.size u u') :
    Calls Tryd.prog 32 #[.slice A n c, .func (.func 36) #[] #[.pointer (some ⟨p, 0, none⟩)]] w fun e u' => e = .returned (.int .i64 (ixI F (l.map Tq.k))) ∧ Below w.heap.size w u' := by
  have HR := Lib.hid h
  have HN := Lib.hid hn
  have HC := Lib.hid hc
  obtain ⟨R, hR⟩ : ∃ R, ixI F (l.map Tq.k) = R := ⟨_, rfl⟩
  rw [hR]
  have HA := Lib.hid hR
  clear h hn hc hR
  go_enter Tryd.func32, Tryd.ntmps32
  go_wp2
  go_loopw [8] (fun v8 wr => ∃ (i : Nat), i ≤ n ∧ v8 = .int .i64 (i : Int) ∧ Hid (∀ y ∈ (l.map Tq.k).take i, F y = false) ∧ Hid (Below w.heap.size w wr)) (fun v8 _ => n - (intOf v8).toNat)
  case atStart => exact ⟨0, by omega, rfl, Lib.hid (fun y hy => by simp at hy), Lib.hid (Below.refl _ _)⟩
  case round =>
    obtain ⟨i, hi, rfl, H0, HB⟩ := hrel
    by_cases hi1 : i < n
    · have hi2 : (i : Int) < (n : Int) := by omega
      obtain ⟨b, o, x, rfl, hx, hc⟩ := rowI HR.out i (by rw [HN.out]; exact hi1)
      obtain ⟨c0, c1, c2, c3, c4⟩ := hc wr HB.out
      have HX := Lib.hid (show (l.map Tq.k)[i]? = some x.k by rw [List.getElem?_map, hx]; rfl)
      have HC2 := Lib.hid (HC.out wr HB.out x (List.mem_of_getElem? hx))
      obtain ⟨q, hq⟩ : ∃ q, F x.k = q := ⟨_, rfl⟩
      have HQ := Lib.hid hq
      rw [hq] at HC2
      clear hc hx hq
      obtain ⟨⟨xv, xn, xt, xe⟩, tx, g, cx⟩ := x
      dsimp only at c0 c1 c2 c3 c4 HC2
      cases q with
      | false =>
        go_wp2_with (go_at_call 36; refine HC2.out.mono ?_; rintro e u2 ⟨rfl, hb2⟩)
        go_roundw
        case rel =>
          refine ⟨i + 1, by omega, by go_num, Lib.hid (fun y hy => ?_), Lib.hid (HB.out.trans (hb2.mono HB.out.size))⟩
          rw [List.take_add_one, HX.out, List.mem_append] at hy
          rcases hy with hy | hy
          · exact H0.out y hy
          · simp at hy; rw [hy]; exact HQ.out
        case measure => simp [intOf]; omega
      | true =>
        go_wp2_with (go_at_call 36; refine HC2.out.mono ?_; rintro e u2 ⟨rfl, hb2⟩)
        go_ret
        exact ⟨by rw [← HA.out, ix_at HX.out H0.out HQ.out]; rfl, HB.out.trans (hb2.mono HB.out.size)⟩
    · have hi2 : ¬ (i : Int) < (n : Int) := by omega
      go_wp2
      go_ret
      refine ⟨?_, HB.out⟩
      rw [← HA.out, ix_no (fun y hy => H0.out y (by rw [List.take_of_length_le (by rw [List.length_map, HN.out]; omega)]; exact hy))]
      rfl
set_option maxRecDepth 100000 in
set_option maxHeartbeats 2000000 in
theorem index_sh (F : Tk5 → Bool) (A : Option Addr) (l : List Tq) (n c p : Nat) (w : World) (h : Rw 5 tqc w A l) (hn : l.length = n) (hf : n ≤ 1099511627776)
    (hc : ∀ u, Below w.heap.size w u → ∀ x ∈ l, Calls Tryd.prog 33 #[.agg (tqc x), .pointer (some ⟨p, 0, none⟩)] u fun e u' => e = .returned (.bool (F x.k)) ∧ Below u.heap.size u u') :
    Calls Tryd.prog 32 #[.slice A n c, .func (.func 33) #[] #[.pointer (some ⟨p, 0, none⟩)]] w fun e u' => e = .returned (.int .i64 (ixI F (l.map Tq.k))) ∧ Below w.heap.size w u' := by
  have HR := Lib.hid h
  have HN := Lib.hid hn
  have HC := Lib.hid hc
  obtain ⟨R, hR⟩ : ∃ R, ixI F (l.map Tq.k) = R := ⟨_, rfl⟩
  rw [hR]
  have HA := Lib.hid hR
  clear h hn hc hR
  go_enter Tryd.func32, Tryd.ntmps32
  go_wp2
  go_loopw [8] (fun v8 wr => ∃ (i : Nat), i ≤ n ∧ v8 = .int .i64 (i : Int) ∧ Hid (∀ y ∈ (l.map Tq.k).take i, F y = false) ∧ Hid (Below w.heap.size w wr)) (fun v8 _ => n - (intOf v8).toNat)
  case atStart => exact ⟨0, by omega, rfl, Lib.hid (fun y hy => by simp at hy), Lib.hid (Below.refl _ _)⟩
  case round =>
    obtain ⟨i, hi, rfl, H0, HB⟩ := hrel
    by_cases hi1 : i < n
    · have hi2 : (i : Int) < (n : Int) := by omega
      obtain ⟨b, o, x, rfl, hx, hc⟩ := rowI HR.out i (by rw [HN.out]; exact hi1)
      obtain ⟨c0, c1, c2, c3, c4⟩ := hc wr HB.out
      have HX := Lib.hid (show (l.map Tq.k)[i]? = some x.k by rw [List.getElem?_map, hx]; rfl)
      have HC2 := Lib.hid (HC.out wr HB.out x (List.mem_of_getElem? hx))
      obtain ⟨q, hq⟩ : ∃ q, F x.k = q := ⟨_, rfl⟩
      have HQ := Lib.hid hq
      rw [hq] at HC2
      clear hc hx hq
      obtain ⟨⟨xv, xn, xt, xe⟩, tx, g, cx⟩ := x
      dsimp only at c0 c1 c2 c3 c4 HC2
      cases q with
      | false =>
        go_wp2_with (go_at_call 33; refine HC2.out.mono ?_; rintro e u2 ⟨rfl, hb2⟩)
        go_roundw
        case rel =>
          refine ⟨i + 1, by omega, by go_num, Lib.hid (fun y hy => ?_), Lib.hid (HB.out.trans (hb2.mono HB.out.size))⟩
          rw [List.take_add_one, HX.out, List.mem_append] at hy
          rcases hy with hy | hy
          · exact H0.out y hy
          · simp at hy; rw [hy]; exact HQ.out
        case measure => simp [intOf]; omega
      | true =>
        go_wp2_with (go_at_call 33; refine HC2.out.mono ?_; rintro e u2 ⟨rfl, hb2⟩)
        go_ret
        exact ⟨by rw [← HA.out, ix_at HX.out H0.out HQ.out]; rfl, HB.out.trans (hb2.mono HB.out.size)⟩
    · have hi2 : ¬ (i : Int) < (n : Int) := by omega
      go_wp2
      go_ret
      refine ⟨?_, HB.out⟩
      rw [← HA.out, ix_no (fun y hy => H0.out y (by rw [List.take_of_length_le (by rw [List.length_map, HN.out]; omega)]; exact hy))]
      rfl
section
variable {u : World} {H : List Nat} {B tb : Nat} {key : ByteArray} {se : Int} {l : List Tq} {A : Option Addr} {c kb kc : Nat}
set_option maxRecDepth 100000 in
set_option maxHeartbeats 1000000 in
theorem of_ok (h : Tm u H B tb key se l A c kb kc) (hf : l.length ≤ 64) (v : Int) :
    Calls Tryd.prog 25 #[.pointer (some ⟨tb, 0, none⟩), .int .i64 v] u fun e u' => e = .returned (.int .i64 (ixI (visT v) (l.map Tq.k))) ∧ Below u.heap.size u u' := by
  obtain ⟨n, hn⟩ : ∃ n, l.length = n := ⟨_, rfl⟩
  obtain ⟨u1, hu1⟩ : ∃ u1, u.alloc (.cells #[.int .i64 v] 3) = u1 := ⟨_, rfl⟩
  obtain ⟨p, hp⟩ : ∃ p, u.heap.size = p := ⟨_, rfl⟩
  have hb1 : Below u.heap.size u u1 := by rw [← hu1]; exact (Below.refl _ _).alloc (Nat.le_refl _) _
  have hbk : Bk u1 p 3 #[.int .i64 v] := by rw [← hu1, ← hp]; exact Bk.new _ _ _
  have h1 := h.on hb1
  have hblk := h1.blk
  rw [hn] at hblk
  have c2 : u1.cell? ⟨tb, 2, none⟩ = some (.slice A n c) := hblk.cell 2
  have HI := Lib.hid (index_of (visT v) A l n c p u1 (Ow.rw_ (f := tqc) (k := 5) (fun _ => rfl) h1.ow) hn (by omega) (fun w hw x hx => of1_ok x p v w ((hbk.below hw hbk.lt).cell 0) (Nat.lt_of_lt_of_le hbk.lt hw.size)))
  have HB := Lib.hid hb1
  obtain ⟨R, hR⟩ : ∃ R, ixI (visT v) (l.map Tq.k) = R := ⟨_, rfl⟩
  rw [hR] at HI ⊢
  clear h hf hn hb1 hbk h1 hblk hR
  go_enter Tryd.func25, Tryd.ntmps25
  go_upto_region 1 with fail
  try rw [hu1]
  try rw [hp]
  clear hu1 hp
  go_wp2_with (go_at_call 32; (with_reducible refine HI.out.mono ?_); rintro e u2 ⟨rfl, hb⟩; have H2 := Lib.hid (HB.out.trans (hb.mono HB.out.size)); clear hb)
  go_ret
  exact ⟨rfl, H2.out⟩
set_option maxRecDepth 100000 in
set_option maxHeartbeats 1000000 in
theorem shown_ok (h : Tm u H B tb key se l A c kb kc) (hf : l.length ≤ 64) (s : ByteArray) (hs : s.size ≤ 1099511627776) :
    Calls Tryd.prog 22 #[.pointer (some ⟨tb, 0, none⟩), .string s] u fun e u' => e = .returned (.int .i64 (ixI (texT s) (l.map Tq.k))) ∧ Below u.heap.size u u' := by
  obtain ⟨n, hn⟩ : ∃ n, l.length = n := ⟨_, rfl⟩
  obtain ⟨cap, ob, hcb, hcap1, hcap2, htb⟩ := conv_tb s (by omega) u
  obtain ⟨g, hg⟩ : ∃ g, u.heap.size = g := ⟨_, rfl⟩
  obtain ⟨p, hp⟩ : ∃ p, g + 1 = p := ⟨_, rfl⟩
  have hsz : (u.alloc ob).heap.size = p := by rw [World.size_alloc, ← hp, ← hg]
  obtain ⟨u1, hu1⟩ : ∃ u1, ((u.alloc ob).alloc (.cells #[.slice (some ⟨g, 0, none⟩) s.size cap] 50)).drew = u1 := ⟨_, rfl⟩
  have hb0 : Below u.heap.size u (u.alloc ob) := (Below.refl u.heap.size u).alloc (Nat.le_refl _) _
  have hb1 : Below (u.alloc ob).heap.size (u.alloc ob) u1 := by
    rw [← hu1]
    exact ((Below.refl _ _).alloc (Nat.le_refl _) _).drew
  have hbk : Bk u1 p 50 #[.slice (some ⟨g, 0, none⟩) s.size cap] := by
    rw [← hu1, ← hsz]
    exact (Bk.new _ _ _).drew
  have htb : Tb (u.alloc ob) u.heap.size s := htb
  rw [hg] at htb hcb
  have htb1 : Tb u1 g s := htb.on hb1
  have hB : Below u.heap.size u u1 := hb0.trans (hb1.mono hb0.size)
  have h1 := h.on hB
  have hblk := h1.blk
  rw [hn] at hblk
  have c2 : u1.cell? ⟨tb, 2, none⟩ = some (.slice A n c) := hblk.cell 2
  have HI := Lib.hid (index_sh (texT s) A l n c p u1 (Ow.rw_ (f := tqc) (k := 5) (fun _ => rfl) h1.ow) hn (by omega) (fun w hw x hx => sh1_ok x p g cap s w ((hbk.below hw hbk.lt).cell 0) (Nat.lt_of_lt_of_le hbk.lt hw.size) (htb1.on hw) ((h1.tx x hx).1.on hw) hs (h1.tx x hx).2.2))
  have HB := Lib.hid hB
  obtain ⟨R, hR⟩ : ∃ R, ixI (texT s) (l.map Tq.k) = R := ⟨_, rfl⟩
  rw [hR] at HI ⊢
  clear h hf hn hb0 hb1 hbk h1 hblk hR htb htb1 hB
  go_enter Tryd.func22, Tryd.ntmps22
  go_upto_region 2 with fail
  try rw [hg]
  try rw [hsz]
  try rw [hp]
  try rw [hu1]
  clear hu1 hsz hcb
  go_wp2_with (go_at_call 32; (with_reducible refine HI.out.mono ?_); rintro e u2 ⟨rfl, hb⟩; have H2 := Lib.hid (HB.out.trans (hb.mono HB.out.size)); clear hb)
  go_ret
  exact ⟨rfl, H2.out⟩
end
end Go.Proofs.YtinbegnojfpeiaaDoor
