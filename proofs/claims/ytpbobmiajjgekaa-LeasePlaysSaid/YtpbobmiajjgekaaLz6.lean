/- Lapse: its contract. (Written by gen_lz6.py.) -/
import Derived.Test.YtpbobmiajjgekaaG13
import Derived.Test.YtpbobmiajjgekaaG2
namespace Go.Proofs.Ytpbobmiajjgekaa
set_option linter.unusedVariables false
set_option maxRecDepth 100000
set_option linter.unusedSimpArgs false
open Go.RowKit

/-- delete, as one operation. -/
theorem op_ldrop {o : Oper} {a : Act} {K : Act → World → Prop} {Q : Exit → Act → World → Prop} {w : World} (m x : Operand) (hop : o.op = .call { callee := .builtin .delete, args := #[m, x], argTypes := #[58, 9] })
    (mb : Nat) (l : List (ByteArray × Nat)) (s : ByteArray) (hm : a.eval m = .map (some mb)) (hx : a.eval x = .string s) (h : Ml w mb l) (hs : s.size ≤ 140737488355328)
    (hK : ∀ w', Ml w' mb (outK s l) → Ke [mb] w w' → K (a.put o.dst (.tuple #[])) w') : o.wp Try.prog a w K Q := by
  obtain ⟨w', hrun, r1, r2⟩ := h.drop s hs o.type
  unfold Oper.wp
  simp [execOp, hop, resolve, invoke, builtin, hm, hx, hrun, Result.andThen]
  exact hK w' r1 r2
theorem gen_ql {Q : Exit → Act → World → Prop} {e : Exit} {a : Act} {w : World} (S : World → Prop) (hS : S w) (h : ∀ u, S u → Q e a u) : Q e a w := h w hS
def lpK (g : Int) (x : Ls) : Ls := { x with held := false, till := x.till + g }
theorem dlS_mem {S l : List Ls} {x : Ls} (hx : x ∈ l) (h : anyL S x.name = false) : x ∈ dlS S l := List.mem_filter.2 ⟨hx, by rw [h]; rfl⟩
set_option maxRecDepth 100000 in
set_option maxHeartbeats 8000000 in
theorem llapse_ok {u : World} {gb mb : Nat} {ad : ByteArray → Nat} {g most : Int} {b : Bo} (h : Lz u gb mb ad g most b) (now : Int) :
    Calls Try.prog 23 #[.pointer (some ⟨gb, 0, none⟩), .int .i64 now] u (LvP gb mb ad g most (mb :: lbs ad b.l) (lapseL g b now) u) := by
  have HZ := Lib.hid h
  have HC := Lib.hid (fun w => lmoment_ok now w)
  obtain ⟨u3, hu3⟩ : ∃ u3, (u.alloc (.cells #[.pointer (some ⟨gb, 0, none⟩)] 24)).alloc (.cells #[.int .i64 now] 2) = u3 := ⟨_, rfl⟩
  obtain ⟨p2, hp2⟩ : ∃ p, u.heap.size = p := ⟨_, rfl⟩
  have HP2 := Lib.hid hp2
  have q1 : (u.alloc (.cells #[.pointer (some ⟨gb, 0, none⟩)] 24)).heap.size = p2 + 1 := by rw [← hp2]; exact World.size_alloc ..
  have HB3 := Lib.hid (show Below u.heap.size u u3 by rw [← hu3]; exact ((Below.refl u.heap.size u).alloc (Nat.le_refl _) _).alloc (by simp) _)
  have HK2 := Lib.hid (show Bk u3 p2 24 #[.pointer (some ⟨gb, 0, none⟩)] by rw [← hu3, ← hp2]; exact (Bk.new u 24 _).alloc _)
  have HK3 := Lib.hid (show Bk u3 (p2 + 1) 2 #[.int .i64 now] by rw [← hu3, ← q1]; exact Bk.new _ 2 _)
  have HZ3 := Lib.hid (h.on HB3.out)
  have d3 : u3.cell? ⟨p2 + 1, 0, none⟩ = some (.int .i64 now) := HK3.out.cell 0
  have d2 : u3.cell? ⟨p2, 0, none⟩ = some (.pointer (some ⟨gb, 0, none⟩)) := HK2.out.cell 0
  have HT := Lib.hid (those_lapse1 HZ3.out (p2 + 1) (fun x => x.held && decide (x.till ≤ now)) (fun u' hb x hx => lpc1_ok u' (ad x.name) (p2 + 1) x now ((HZ3.out.each x hx).below hb (HZ3.out.each x hx).lt) (HK3.out.below hb HK3.out.lt)))
  have hmf : ∀ (fn : Fn) (first cap : Array Value) (w : World), (Instr.makeFunc fn first cap).run Try.prog w = .ok (.func fn first cap) w := fun _ _ _ _ => rfl
  obtain ⟨R, hR⟩ : ∃ R, lapseL g b now = R := ⟨_, rfl⟩
  have hr := hR
  rw [hR]
  unfold lapseL at hr
  obtain ⟨ck, hck⟩ : ∃ ck, clkB now = ck := ⟨_, rfl⟩
  have hck0 := hck
  rw [hck] at hr
  simp only [hck] at HC
  have HR := Lib.hid hr
  clear hr hR hck h q1
  cases ck with
  | false =>
    have HS := Lib.hid (show R = ([], b) by rw [← HR.out]; rfl)
    clear hck0 HT d2
    go_enter Try.func23, Try.ntmps23
    go_upto_region 1 with fail
    try rw [hu3]
    try rw [hp2]
    clear hu3 hp2
    go_wp2_with (go_at_call 35; (with_reducible refine (HC.out _).mono ?_); rintro e u5 ⟨rfl, hu⟩; rw [hu]; clear hu)
    go_ret
    exact ⟨⟨none, 0, by rw [HS.out]; rfl, by rw [HS.out]; exact Ow.nil _ _⟩, by rw [HS.out]; exact HZ3.out, Ke.nil (Ke.of HB3.out)⟩
  | true =>
    have hg1 := HZ.out.ok.g1
    have hg2 := HZ.out.ok.g2
    have HWR := Lib.hid (show ∀ x ∈ b.l, x.held = true → IntKind.i64.wrap (x.till + g) = x.till + g ∧ TlL (lpK g x) from fun x hx hh => by
      have ht := HZ.out.ok.tl x hx
      have h1 := ht.lo
      have h2 := ht.hd hh
      obtain ⟨W, hW⟩ := Int.eq_ofNat_of_zero_le (show 0 ≤ x.till + g by omega)
      exact ⟨((iwrap (x.till + g) W hW (by omega)).1).trans hW.symm, ⟨by show 0 ≤ x.till + g; omega, by show x.till + g ≤ _; omega, fun hq => by cases hq⟩⟩)
    have HKN := Lib.hid (show ∀ x : Ls, (lpK g x).name = x.name from fun x => rfl)
    obtain ⟨p, hp⟩ : ∃ p : Ls → Bool, (fun x : Ls => x.held && decide (x.till ≤ now)) = p := ⟨_, rfl⟩
    obtain ⟨fr, hfr⟩ : ∃ fr : Ls → Bool, (fun x : Ls => !(heL x now || kpL g x now)) = fr := ⟨_, rfl⟩
    obtain ⟨L, hL⟩ : ∃ L, b.l.filter p = L := ⟨_, rfl⟩
    obtain ⟨l1, hl1⟩ : ∃ l1, upS (lpK g) L b.l = l1 := ⟨_, rfl⟩
    have HL1 := Lib.hid hl1
    have HUP1 := Lib.hid (show UpL l1 by rw [← hl1]; exact upS_up HKN.out HZ.out.ok.up)
    have HS := Lib.hid (show R = (L, ⟨dlS (l1.filter fr) l1, b.nx⟩) by
      rw [← HR.out, if_neg (by simp), dlS_all HUP1.out, ← hl1, ← hL, upS_all HZ.out.ok.up, ← hp, ← hfr]
      simp only [Bool.not_not]
      rfl)
    have HPQ := Lib.hid (show ∀ x, p x = true → x.held = true by rw [← hp]; intro x hx; simp only [Bool.and_eq_true] at hx; exact hx.1)
    have HFR := Lib.hid hfr
    rw [hp, hL] at HT
    have HUP := Lib.hid (show UpL L by rw [← hL]; exact filter_up HZ.out.ok.up p)
    have HIN := Lib.hid (show ∀ x ∈ L, x ∈ b.l ∧ x.held = true by rw [← hL]; exact fun x hx => ⟨(List.mem_filter.1 hx).1, HPQ.out x (List.mem_filter.1 hx).2⟩)
    have hfew : L.length ≤ 64 := by rw [← hL]; exact Nat.le_trans (List.length_filter_le _ _) HZ.out.ok.few
    obtain ⟨n, hn⟩ : ∃ n, L.length = n := ⟨_, rfl⟩
    have HN := Lib.hid hn
    unfold ThP at HT
    rw [hn] at HT hfew
    clear hck0 hg1 hg2 hL hl1 hp hn HR hfr HPQ
    go_enter Try.func23, Try.ntmps23
    go_upto_region 1 with fail
    try rw [hu3]
    try rw [hp2]
    clear hu3 hp2
    go_upto_region 4 with (go_at_call 35; (with_reducible refine (HC.out _).mono ?_); rintro e u5 ⟨rfl, hu⟩; rw [hu]; clear hu)
    go_wp2_with (go_at_call 43; (with_reducible refine HT.out.mono ?_); rintro e u4 ⟨A, c, rfl, ho, hb⟩; have HO := Lib.hid ho; have HB4 := Lib.hid hb; clear ho hb)
    have HU4 := Lib.hid (HB3.out.trans (HB4.out.mono HB3.out.size))
    have HZ4 := Lib.hid (HZ3.out.on HB4.out)
    clear d2 d3 HT HC
    go_loopw [5, 17] (fun v5 v17 wr => ∃ (i : Nat) (A2 : Option Addr) (c2 : Nat), i ≤ n ∧ v5 = .slice A2 i c2 ∧ v17 = .int .i64 (i : Int) ∧ Hid (OL13 wr u4.heap.size A2 c2 (L.take i)) ∧ Hid (Lz wr gb mb ad g most ⟨upS (lpK g) (L.take i) b.l, b.nx⟩) ∧ Hid (Ke (lbs ad b.l) u4 wr)) (fun v5 v17 _ => n - (intOf v17).toNat)
    case atStart => exact ⟨0, none, 0, by omega, rfl, rfl, Lib.hid (by rw [List.take_zero]; exact Ow.nil _ _), Lib.hid (by rw [List.take_zero, upS_nil]; exact HZ4.out), Lib.hid (Ke.refl _ _)⟩
    case round =>
      obtain ⟨i, A2, c2, hi, rfl, rfl, HRW, HZW, HKW⟩ := hrel
      have HB2 := Lib.hid (show Bk wr p2 24 #[.pointer (some ⟨gb, 0, none⟩)] from (HK2.out.below HB4.out HK2.out.lt).ke HKW.out (fun hm => by have := lbs_lt HZ.out _ hm; have := HP2.out; omega))
      by_cases hi1 : i < n
      · have hi2 : (i : Int) < (n : Int) := by omega
        have HOW := Lib.hid (show OP wr u3.heap.size A c (L.map fun x => ad x.name) from HO.out.keep fun q cs hq hh => hh.ke HKW.out (fun hm => by have := lbs_lt HZ.out q hm; have := HB3.out.size; omega))
        obtain ⟨bx, o, s, rfl, hs, hcl⟩ := rowP (Ow.rw_ (f := pcs) (k := 1) (fun _ => rfl) HOW.out) i (by rw [List.length_map, HN.out]; exact hi1)
        have c0 := hcl wr (Below.refl _ _)
        have hlx : i < L.length := by rw [HN.out]; exact hi1
        obtain ⟨x, hx⟩ : ∃ x, L[i]? = some x := ⟨_, List.getElem?_eq_getElem hlx⟩
        rw [List.getElem?_map, hx] at hs
        have hsx : ad x.name = s := by injection hs
        subst hsx
        obtain ⟨hxm, hxh⟩ := HIN.out x (List.mem_of_getElem? hx)
        have hany : anyL (L.take i) x.name = false := anyL_false (take_lt HUP.out hx)
        have HXM := Lib.hid (upS_mem (K := lpK g) hxm hany)
        have HX := Lib.hid (HZW.out.each x HXM.out)
        have HUS := Lib.hid (upS_snoc HKN.out HZ.out.ok.up hxm hany)
        have HT := Lib.hid (show L.take (i + 1) = L.take i ++ [x] by rw [List.take_add_one, hx]; rfl)
        have HM := Lib.hid (show (L.take i).length = i by rw [List.length_take, HN.out]; omega)
        have HAF := Lib.hid (show ad x.name ∈ lbs ad b.l from List.mem_map.2 ⟨x, hxm, rfl⟩)
        have HKP := Lib.hid (lkeep_ok wr.drew gb mb (ad x.name) g most b.nx x x.till (x.till + g) HZW.out.blk.drew HX.out.drew (HWR.out x hxm hxh).1)
        have HTX := Lib.hid (HWR.out x hxm hxh).2
        have HLT := Lib.hid (show ad x.name < u.heap.size from (HZ.out.each x hxm).lt)
        obtain ⟨ax, hax⟩ : ∃ ax, ad x.name = ax := ⟨_, rfl⟩
        have HAX := Lib.hid hax
        rw [hax] at HX c0 HKP HLT HAF
        clear hx hs hcl hxm hlx hax hany hxh
        obtain ⟨xn, xt, xc, xe, xu, xh⟩ := x
        dsimp only [lsc] at HX HKP
        have x4 : wr.cell? ⟨ax, 4, none⟩ = some (.int .i64 xu) := HX.out.cell 4
        have HPA := Lib.hid (show p2 ∉ [ax] from fun hm => by have := List.mem_singleton.1 hm; have := HLT.out; have := HP2.out; omega)
        go_upto_region 7 with fail
        try simp only [List.cons_append, List.nil_append]
        refine wp_region_held_drew (S := fun wz => Bk wz p2 24 #[.pointer (some ⟨gb, 0, none⟩)]) (by kernel_rfl) (HB2.out.drew) (fun hHeld => ?_)
        refine take_at (some 21) (i := 0) (v := ?_) rfl rfl (by kernel_rfl) (by kernel_rfl) (by kernel_rfl) (fun _ _ _ h => h) (Or.inl ⟨by kernel_rfl, ?_⟩) hHeld ?_
        rotate_left
        · intro wz hSw; go_simp; try (with_reducible rfl)
        try simp only [Act.put, List.setIfInBounds_toArray, List.set_cons_zero, List.set_cons_succ, List.getElem_toArray, List.getElem_cons_succ, List.getElem_cons_zero]
        refine take_at (some 22) (i := 1) (v := ?_) rfl rfl (by kernel_rfl) (by kernel_rfl) (by kernel_rfl) (fun _ _ _ h => h) (Or.inl ⟨by kernel_rfl, ?_⟩) hHeld ?_
        rotate_left
        · intro wz hSw; have d2 : wz.cell? ⟨p2, 0, none⟩ = some (.pointer (some ⟨gb, 0, none⟩)) := hSw.cell 0; go_simp; try (with_reducible rfl)
        try simp only [Act.put, List.setIfInBounds_toArray, List.set_cons_zero, List.set_cons_succ, List.getElem_toArray, List.getElem_cons_succ, List.getElem_cons_zero]
        refine take_at (some 23) (i := 2) (v := ?_) rfl rfl (by kernel_rfl) (by kernel_rfl) (by kernel_rfl) (fun _ _ _ h => h) (Or.inl ⟨by kernel_rfl, ?_⟩) hHeld ?_
        rotate_left
        · intro wz hSw; go_simp; try (with_reducible rfl)
        try simp only [Act.put, List.setIfInBounds_toArray, List.set_cons_zero, List.set_cons_succ, List.getElem_toArray, List.getElem_cons_succ, List.getElem_cons_zero]
        refine take_at (some 24) (i := 3) (v := ?_) rfl rfl (by kernel_rfl) (by kernel_rfl) (by kernel_rfl) (fun _ _ _ h => h) (Or.inl ⟨by kernel_rfl, ?_⟩) hHeld ?_
        rotate_left
        · intro wz hSw; go_simp; try (with_reducible rfl)
        try simp only [Act.put, List.setIfInBounds_toArray, List.set_cons_zero, List.set_cons_succ, List.getElem_toArray, List.getElem_cons_succ, List.getElem_cons_zero]
        refine take_at (some 25) (i := 4) (v := ?_) rfl rfl (by kernel_rfl) (by kernel_rfl) (by kernel_rfl) (fun _ _ _ h => h) (Or.inl ⟨by kernel_rfl, ?_⟩) hHeld ?_
        rotate_left
        · intro wz hSw; have d2 : wz.cell? ⟨p2, 0, none⟩ = some (.pointer (some ⟨gb, 0, none⟩)) := hSw.cell 0; go_simp; try (with_reducible rfl)
        try simp only [Act.put, List.setIfInBounds_toArray, List.set_cons_zero, List.set_cons_succ, List.getElem_toArray, List.getElem_cons_succ, List.getElem_cons_zero]
        refine take_at (some 26) (i := 5) (v := ?_) rfl rfl (by kernel_rfl) (by kernel_rfl) (by kernel_rfl) (fun _ _ _ h => h) (Or.inl ⟨by kernel_rfl, ?_⟩) hHeld ?_
        rotate_left
        · intro wz hSw; have d2 : wz.cell? ⟨p2, 0, none⟩ = some (.pointer (some ⟨gb, 0, none⟩)) := hSw.cell 0; go_simp; try (with_reducible rfl)
        try simp only [Act.put, List.setIfInBounds_toArray, List.set_cons_zero, List.set_cons_succ, List.getElem_toArray, List.getElem_cons_succ, List.getElem_cons_zero]
        refine wpAnyH_ready (rs := [6]) (by kernel_rfl) (by simp) (AllReadyH.cons rfl (fun K hK => ?_) AllReadyH.nil)
        rw [if_pos (by kernel_rfl)]
        go_simp
        refine hK.out _ _ HB2.out.drew (fun hHeld => ?_)
        try simp only [Act.put, List.setIfInBounds_toArray, List.set_cons_zero, List.set_cons_succ, List.getElem_toArray, List.getElem_cons_succ, List.getElem_cons_zero]
        refine wpAnyH_ready (rs := [7]) (by kernel_rfl) (by simp) (AllReadyH.cons rfl (fun K hK => ?_) AllReadyH.nil)
        rw [if_pos (by kernel_rfl)]
        go_simp
        refine HKP.out.mono ?_
        rintro e w5 ⟨rfl, hk5, hke5⟩
        try dsimp only
        have HX5 := Lib.hid hk5
        have HKE5 := Lib.hid hke5
        have hbp := HB2.out.drew.ke hke5 HPA.out
        refine hK.out _ _ hbp (fun hHeld => ?_)
        try simp only [Act.put, List.setIfInBounds_toArray, List.set_cons_zero, List.set_cons_succ, List.getElem_toArray, List.getElem_cons_succ, List.getElem_cons_zero]
        have HO5 := Lib.hid (show OL13 w5 u4.heap.size A2 c2 (L.take i) from HRW.out.keep fun q cs hq hh => hh.drew.ke hke5 (fun hm => by have := List.mem_singleton.1 hm; have := HLT.out; have := HU4.out.size; omega))
        have HSZ5 := Lib.hid (show u4.heap.size ≤ w5.heap.size from Nat.le_trans HKW.out.size hke5.size)
        refine wpAnyH_ready (rs := [8]) (by kernel_rfl) (by simp) (AllReadyH.cons rfl (fun K hK => ?_) AllReadyH.nil)
        rw [if_pos (by kernel_rfl)]
        go_simp
        refine hK.out _ _ (hbp.alloc _) (fun hHeld => ?_)
        try simp only [Act.put, List.setIfInBounds_toArray, List.set_cons_zero, List.set_cons_succ, List.getElem_toArray, List.getElem_cons_succ, List.getElem_cons_zero]
        have HOA := Lib.hid (HO5.out.on ((Below.refl w5.heap.size w5).alloc (Nat.le_refl _) (.cells #[.string xn, .string xt, .int .i64 xc, .int .i64 xe, .int .i64 xu, .bool xh] 32)))
        have HRX := Lib.hid (Rw.bk (f := lsc) (k := 6) (x := ⟨xn, xt, xc, xe, xu, xh⟩) (Bk.new w5 32 #[.string xn, .string xt, .int .i64 xc, .int .i64 xe, .int .i64 xu, .bool xh]))
        have HBA := Lib.hid ((Below.refl u4.heap.size w5).alloc HSZ5.out (.cells #[.string xn, .string xt, .int .i64 xc, .int .i64 xe, .int .i64 xu, .bool xh] 32))
        refine wpAnyH_ready (rs := [9]) (by kernel_rfl) (by simp) (AllReadyH.cons rfl (fun K hK => ?_) AllReadyH.nil)
        rw [if_pos (by kernel_rfl)]
        refine op_rows roL (.tmp 21) (.tmp 29) rfl i rfl HM.out HOA.out [⟨xn, xt, xc, xe, xu, xh⟩] (some ⟨w5.heap.size, 0, none⟩) 1 1 rfl rfl (fun h => by cases h) HRX.out (by omega) (Nat.le_trans HSZ5.out HBA.out.size) (i + 1) rfl ?_
        intro A9 c9 w9 ho9 hg9 hb9
        have hbA := HBA.out.trans hb9
        refine hK.out _ _ ((hbp.alloc _).below hb9 (by have := HK2.out.lt; have := HB4.out.size; omega)) (fun hHeld => ?_)
        try simp only [Act.put, List.setIfInBounds_toArray, List.set_cons_zero, List.set_cons_succ, List.getElem_toArray, List.getElem_cons_succ, List.getElem_cons_zero]
        refine take_at (some 5) (i := 10) (v := ?_) rfl rfl (by kernel_rfl) (by kernel_rfl) (by kernel_rfl) (fun _ _ _ h => h) (Or.inl ⟨by kernel_rfl, ?_⟩) hHeld ?_
        rotate_left
        · intro wz hSw; go_simp; try (with_reducible rfl)
        try simp only [Act.put, List.setIfInBounds_toArray, List.set_cons_zero, List.set_cons_succ, List.getElem_toArray, List.getElem_cons_succ, List.getElem_cons_zero]
        refine wpAnyH_done (by kernel_rfl) ?_ _
        refine gen_ql (fun wz => OL13 wz u4.heap.size A9 c9 (L.take (i + 1)) ∧ Lz wz gb mb ad g most ⟨upS (lpK g) (L.take (i + 1)) b.l, b.nx⟩ ∧ Ke (lbs ad b.l) u4 wz) ⟨?_, ?_, ?_⟩ (fun wq hq => ?_)
        · rw [HT.out]; exact ho9
        · have hz5 := HZW.out.ke (Ke.refl [] wr).drew (fun _ _ hm => by cases hm)
          have hz6 := hz5.turn1 HXM.out (z := lpK g ⟨xn, xt, xc, xe, xu, xh⟩) rfl (by rw [HAX.out]; exact HKE5.out) (by rw [HAX.out]; exact HX5.out) HTX.out
          rw [HT.out, ← HUS.out]
          refine hz6.low hbA (fun y hy => ?_)
          rw [HUS.out, upS_ft HKN.out] at hy
          have := HZ4.out.lt y hy
          omega
        · exact ((HKW.out.drew).trans (HKE5.out.more (fun y hy => by rw [List.mem_singleton.1 hy]; exact HAF.out))).low hbA
        have HQ := Lib.hid hq
        clear hq ho9 hbA hHeld c0
        go_wp2
        go_roundw
        case rel => exact ⟨i + 1, A9, c9, by omega, by first | rfl | go_num, by go_num, Lib.hid HQ.out.1, Lib.hid HQ.out.2.1, Lib.hid HQ.out.2.2⟩
        case measure => simp [intOf]; omega
      · have hi2 : ¬ (i : Int) < (n : Int) := by omega
        have HTL := Lib.hid (show L.take i = L from List.take_of_length_le (by rw [HN.out]; omega))
        have HII := Lib.hid (show i = n by omega)
        have HOL := Lib.hid (show OL13 wr u4.heap.size A2 c2 L by have := HRW.out; rw [HTL.out] at this; exact this)
        have HZB := Lib.hid (show Lz wr gb mb ad g most ⟨l1, b.nx⟩ by have := HZW.out; rw [HTL.out, HL1.out] at this; exact this)
        have HN3 := Lib.hid (show Bk wr (p2 + 1) 2 #[.int .i64 now] from (HK3.out.below HB4.out HK3.out.lt).ke HKW.out (fun hm => by have := lbs_lt HZ.out _ hm; have := HP2.out; omega))
        have d2 : wr.cell? ⟨p2, 0, none⟩ = some (.pointer (some ⟨gb, 0, none⟩)) := HB2.out.cell 0
        have HT2 := Lib.hid (those_lapse2 HZB.out p2 (p2 + 1) fr (fun u' hb x hx => by
          have := lpc2_ok u' gb mb (ad x.name) p2 (p2 + 1) g most b.nx x now (HZB.out.blk.below hb HZB.out.blk.lt) ((HZB.out.each x hx).below hb (HZB.out.each x hx).lt) (HZB.out.ok.tl x hx) (by have := HZB.out.ok.g1; omega) HZB.out.ok.g2 (HB2.out.below hb HB2.out.lt) (HN3.out.below hb HN3.out.lt)
          rw [← HFR.out]
          exact this))
        obtain ⟨L2, hL2⟩ : ∃ L2, l1.filter fr = L2 := ⟨_, rfl⟩
        have HUP2 := Lib.hid (show UpL L2 by rw [← hL2]; exact filter_up HUP1.out fr)
        have HIN2 := Lib.hid (show ∀ x ∈ L2, x ∈ l1 by rw [← hL2]; exact fun x hx => (List.mem_filter.1 hx).1)
        have hfew2 : L2.length ≤ 64 := by rw [← hL2]; exact Nat.le_trans (List.length_filter_le _ _) HZB.out.ok.few
        have HS2 := Lib.hid (show R = (L, ⟨dlS L2 l1, b.nx⟩) by rw [HS.out, hL2])
        dsimp only at HT2
        rw [hL2] at HT2
        obtain ⟨n2, hn2⟩ : ∃ n2, L2.length = n2 := ⟨_, rfl⟩
        have HNN := Lib.hid hn2
        unfold ThP at HT2
        rw [hn2] at HT2 hfew2
        have HFB := Lib.hid (show lbs ad l1 = lbs ad b.l by
          rw [← HL1.out]
          unfold lbs upS
          rw [List.map_map]
          refine List.map_congr_left fun z hz => ?_
          show ad (if anyL L z.name = true then lpK g z else z).name = ad z.name
          rw [upS_name HKN.out])
        clear hL2 hn2 hfew
        go_wp2_with (go_at_call 43; (with_reducible refine HT2.out.mono ?_); rintro e u6 ⟨A6, c6, rfl, ho, hb⟩; have HO6 := Lib.hid ho; have HB6 := Lib.hid hb; clear ho hb)
        have HZ6 := Lib.hid (HZB.out.on HB6.out)
        clear d2 hmf HT2
        obtain ⟨B6, hB6⟩ : ∃ B6, wr.heap.size = B6 := ⟨_, rfl⟩
        rw [hB6] at HO6
        clear hB6
        go_loopw [36] (fun v36 ws => ∃ (j : Nat), j ≤ n2 ∧ v36 = .int .i64 (j : Int) ∧ Hid (Lz ws gb mb ad g most ⟨dlS (L2.take j) l1, b.nx⟩) ∧ Hid (Ke [mb] u6 ws)) (fun v36 _ => n2 - (intOf v36).toNat)
        case atStart => exact ⟨0, by omega, rfl, Lib.hid (by rw [List.take_zero, dlS_nil]; exact HZ6.out), Lib.hid (Ke.refl _ _)⟩
        case round =>
          obtain ⟨j, hj, rfl, HZS, HKS⟩ := hrel
          have HMB := Lib.hid (show ∀ k t cs, Bk u6 k t cs → k ≠ mb from fun k t cs hk e => by
            subst e
            obtain ⟨es, ck, hm⟩ := HZ6.out.mp.block
            have h3 : u6.heap[k]? = some (.cells cs t (0, 0)) := hk
            rw [h3] at hm
            cases hm)
          have HKB := Lib.hid (show ∀ k t cs, Bk u6 k t cs → Bk wr k t cs from fun k t cs hk => hk.ke HKS.out (fun hm => HMB.out k t cs hk (List.mem_singleton.1 hm)))
          by_cases hj1 : j < n2
          · have hj2 : (j : Int) < (n2 : Int) := by omega
            have HOW := Lib.hid (show OP wr B6 A6 c6 (L2.map fun x => ad x.name) from HO6.out.keep fun q cs hq hh => HKB.out q _ cs hh)
            obtain ⟨bx, o, s, rfl, hs, hcl⟩ := rowP (Ow.rw_ (f := pcs) (k := 1) (fun _ => rfl) HOW.out) j (by rw [List.length_map, HNN.out]; exact hj1)
            have c0 := hcl wr (Below.refl _ _)
            have hlx : j < L2.length := by rw [HNN.out]; exact hj1
            obtain ⟨x, hx⟩ : ∃ x, L2[j]? = some x := ⟨_, List.getElem?_eq_getElem hlx⟩
            rw [List.getElem?_map, hx] at hs
            have hsx : ad x.name = s := by injection hs
            subst hsx
            have hxm := HIN2.out x (List.mem_of_getElem? hx)
            have HXZ := Lib.hid (show x.name.size ≤ 140737488355328 by have := HZB.out.ok.nm x hxm; omega)
            have HT := Lib.hid (show L2.take (j + 1) = L2.take j ++ [x] by rw [List.take_add_one, hx]; rfl)
            have HX := Lib.hid (HKB.out _ _ _ (HZ6.out.each x hxm))
            have HBX := Lib.hid (HKB.out _ _ _ (HB2.out.below HB6.out HB2.out.lt))
            have HGX := Lib.hid (HKB.out _ _ _ HZ6.out.blk)
            have HDL := Lib.hid (dlS_snoc (L2.take j) l1 x)
            obtain ⟨ax, hax⟩ : ∃ ax, ad x.name = ax := ⟨_, rfl⟩
            rw [hax] at HX c0
            clear hx hs hcl hxm hlx hax
            obtain ⟨xn, xt, xc, xe, xu, xh⟩ := x
            dsimp only [lsc] at HX HXZ HDL
            go_upto_region 12 with fail
            try simp only [List.cons_append, List.nil_append]
            refine wp_region_held_drew (S := fun wz => Bk wz p2 24 #[.pointer (some ⟨gb, 0, none⟩)] ∧ Bk wz gb 60 (lzc g most b.nx mb) ∧ Bk wz ax 32 #[.string xn, .string xt, .int .i64 xc, .int .i64 xe, .int .i64 xu, .bool xh]) (by kernel_rfl) (⟨HBX.out.drew, HGX.out.drew, HX.out.drew⟩) (fun hHeld => ?_)
            refine take_at (some 40) (i := 0) (v := ?_) rfl rfl (by kernel_rfl) (by kernel_rfl) (by kernel_rfl) (fun _ _ _ h => h) (Or.inl ⟨by kernel_rfl, ?_⟩) hHeld ?_
            rotate_left
            · intro wz hSw; have d2 : wz.cell? ⟨p2, 0, none⟩ = some (.pointer (some ⟨gb, 0, none⟩)) := hSw.1.cell 0; have g3 : wz.cell? ⟨gb, 3, none⟩ = some (.map (some mb)) := hSw.2.1.cell 3; have x0 : wz.cell? ⟨ax, 0, none⟩ = some (.string xn) := hSw.2.2.cell 0; go_simp; try (with_reducible rfl)
            try simp only [Act.put, List.setIfInBounds_toArray, List.set_cons_zero, List.set_cons_succ, List.getElem_toArray, List.getElem_cons_succ, List.getElem_cons_zero]
            refine take_at (some 41) (i := 1) (v := ?_) rfl rfl (by kernel_rfl) (by kernel_rfl) (by kernel_rfl) (fun _ _ _ h => h) (Or.inl ⟨by kernel_rfl, ?_⟩) hHeld ?_
            rotate_left
            · intro wz hSw; have d2 : wz.cell? ⟨p2, 0, none⟩ = some (.pointer (some ⟨gb, 0, none⟩)) := hSw.1.cell 0; have g3 : wz.cell? ⟨gb, 3, none⟩ = some (.map (some mb)) := hSw.2.1.cell 3; have x0 : wz.cell? ⟨ax, 0, none⟩ = some (.string xn) := hSw.2.2.cell 0; go_simp; try (with_reducible rfl)
            try simp only [Act.put, List.setIfInBounds_toArray, List.set_cons_zero, List.set_cons_succ, List.getElem_toArray, List.getElem_cons_succ, List.getElem_cons_zero]
            refine take_at (some 42) (i := 2) (v := ?_) rfl rfl (by kernel_rfl) (by kernel_rfl) (by kernel_rfl) (fun _ _ _ h => h) (Or.inl ⟨by kernel_rfl, ?_⟩) hHeld ?_
            rotate_left
            · intro wz hSw; have d2 : wz.cell? ⟨p2, 0, none⟩ = some (.pointer (some ⟨gb, 0, none⟩)) := hSw.1.cell 0; have g3 : wz.cell? ⟨gb, 3, none⟩ = some (.map (some mb)) := hSw.2.1.cell 3; have x0 : wz.cell? ⟨ax, 0, none⟩ = some (.string xn) := hSw.2.2.cell 0; go_simp; try (with_reducible rfl)
            try simp only [Act.put, List.setIfInBounds_toArray, List.set_cons_zero, List.set_cons_succ, List.getElem_toArray, List.getElem_cons_succ, List.getElem_cons_zero]
            refine take_at (some 43) (i := 3) (v := ?_) rfl rfl (by kernel_rfl) (by kernel_rfl) (by kernel_rfl) (fun _ _ _ h => h) (Or.inl ⟨by kernel_rfl, ?_⟩) hHeld ?_
            rotate_left
            · intro wz hSw; have d2 : wz.cell? ⟨p2, 0, none⟩ = some (.pointer (some ⟨gb, 0, none⟩)) := hSw.1.cell 0; have g3 : wz.cell? ⟨gb, 3, none⟩ = some (.map (some mb)) := hSw.2.1.cell 3; have x0 : wz.cell? ⟨ax, 0, none⟩ = some (.string xn) := hSw.2.2.cell 0; go_simp; try (with_reducible rfl)
            try simp only [Act.put, List.setIfInBounds_toArray, List.set_cons_zero, List.set_cons_succ, List.getElem_toArray, List.getElem_cons_succ, List.getElem_cons_zero]
            refine take_at (some 44) (i := 4) (v := ?_) rfl rfl (by kernel_rfl) (by kernel_rfl) (by kernel_rfl) (fun _ _ _ h => h) (Or.inl ⟨by kernel_rfl, ?_⟩) hHeld ?_
            rotate_left
            · intro wz hSw; go_simp; try (with_reducible rfl)
            try simp only [Act.put, List.setIfInBounds_toArray, List.set_cons_zero, List.set_cons_succ, List.getElem_toArray, List.getElem_cons_succ, List.getElem_cons_zero]
            refine take_at (some 45) (i := 5) (v := ?_) rfl rfl (by kernel_rfl) (by kernel_rfl) (by kernel_rfl) (fun _ _ _ h => h) (Or.inl ⟨by kernel_rfl, ?_⟩) hHeld ?_
            rotate_left
            · intro wz hSw; have d2 : wz.cell? ⟨p2, 0, none⟩ = some (.pointer (some ⟨gb, 0, none⟩)) := hSw.1.cell 0; have g3 : wz.cell? ⟨gb, 3, none⟩ = some (.map (some mb)) := hSw.2.1.cell 3; have x0 : wz.cell? ⟨ax, 0, none⟩ = some (.string xn) := hSw.2.2.cell 0; go_simp; try (with_reducible rfl)
            try simp only [Act.put, List.setIfInBounds_toArray, List.set_cons_zero, List.set_cons_succ, List.getElem_toArray, List.getElem_cons_succ, List.getElem_cons_zero]
            refine take_at (some 46) (i := 6) (v := ?_) rfl rfl (by kernel_rfl) (by kernel_rfl) (by kernel_rfl) (fun _ _ _ h => h) (Or.inl ⟨by kernel_rfl, ?_⟩) hHeld ?_
            rotate_left
            · intro wz hSw; have d2 : wz.cell? ⟨p2, 0, none⟩ = some (.pointer (some ⟨gb, 0, none⟩)) := hSw.1.cell 0; have g3 : wz.cell? ⟨gb, 3, none⟩ = some (.map (some mb)) := hSw.2.1.cell 3; have x0 : wz.cell? ⟨ax, 0, none⟩ = some (.string xn) := hSw.2.2.cell 0; go_simp; try (with_reducible rfl)
            try simp only [Act.put, List.setIfInBounds_toArray, List.set_cons_zero, List.set_cons_succ, List.getElem_toArray, List.getElem_cons_succ, List.getElem_cons_zero]
            refine take_at (some 47) (i := 7) (v := ?_) rfl rfl (by kernel_rfl) (by kernel_rfl) (by kernel_rfl) (fun _ _ _ h => h) (Or.inl ⟨by kernel_rfl, ?_⟩) hHeld ?_
            rotate_left
            · intro wz hSw; have d2 : wz.cell? ⟨p2, 0, none⟩ = some (.pointer (some ⟨gb, 0, none⟩)) := hSw.1.cell 0; have g3 : wz.cell? ⟨gb, 3, none⟩ = some (.map (some mb)) := hSw.2.1.cell 3; have x0 : wz.cell? ⟨ax, 0, none⟩ = some (.string xn) := hSw.2.2.cell 0; go_simp; try (with_reducible rfl)
            try simp only [Act.put, List.setIfInBounds_toArray, List.set_cons_zero, List.set_cons_succ, List.getElem_toArray, List.getElem_cons_succ, List.getElem_cons_zero]
            refine wpAnyH_ready (rs := [8]) (by kernel_rfl) (by simp) (AllReadyH.cons rfl (fun K hK => ?_) AllReadyH.nil)
            rw [if_pos (by kernel_rfl)]
            refine op_ldrop (.tmp 43) (.tmp 47) rfl mb _ xn rfl rfl (HZS.out.mp.ke (Ke.refl [] wr).drew (fun hm => by cases hm)) HXZ.out ?_
            intro w9 hm9 hk9
            have hmm := hm9
            have hkm : ∀ k t cs, Bk wr k t cs → Bk w9 k t cs := fun k t cs hk => hk.drew.ke hk9 (fun hm => by
              rw [List.mem_singleton.1 hm] at hk
              obtain ⟨es, ck, hq⟩ := HZS.out.mp.block
              have h3 : wr.heap[mb]? = some (.cells cs t (0, 0)) := hk
              rw [h3] at hq
              cases hq)
            refine hK.out _ _ ⟨hkm _ _ _ HBX.out, hkm _ _ _ HGX.out, hkm _ _ _ HX.out⟩ (fun hHeld => ?_)
            try simp only [Act.put, List.setIfInBounds_toArray, List.set_cons_zero, List.set_cons_succ, List.getElem_toArray, List.getElem_cons_succ, List.getElem_cons_zero]
            clear hkm hmm
            refine wpAnyH_done (by kernel_rfl) ?_ _
            refine gen_ql (fun wz => Lz wz gb mb ad g most ⟨dlS (L2.take (j + 1)) l1, b.nx⟩ ∧ Ke [mb] u6 wz) ⟨?_, (HKS.out.drew).trans hk9⟩ (fun wq hq => ?_)
            · rw [HT.out, ← HDL.out]
              exact (HZS.out.ke (Ke.refl [] wr).drew (fun _ _ hm => by cases hm)).del xn hk9 hm9
            have HQ := Lib.hid hq
            clear hq hk9 hm9 hHeld c0
            go_wp2
            go_roundw
            case rel => exact ⟨j + 1, by omega, by go_num, Lib.hid HQ.out.1, Lib.hid HQ.out.2⟩
            case measure => simp [intOf]; omega
          · have hj2 : ¬ (j : Int) < (n2 : Int) := by omega
            have HTL2 := Lib.hid (show L2.take j = L2 from List.take_of_length_le (by rw [HNN.out]; omega))
            go_wp2
            go_ret
            have hZ := HZS.out
            rw [HTL2.out] at hZ
            have hO : OL13 wr u4.heap.size A2 c2 L := (HOL.out.on HB6.out).keep fun q cs hq hh => HKB.out q _ cs hh
            refine ⟨⟨A2, c2, by rw [HS2.out]; show _ = Ending.returned (.slice A2 L.length c2); rw [HN.out, ← HII.out]; rfl, by rw [HS2.out]; exact hO.weak HU4.out.size⟩, by rw [HS2.out]; exact hZ, ?_⟩
            exact (((Ke.nil (Ke.of HU4.out)).trans (HKW.out.more (fun y hy => List.mem_cons_of_mem _ hy))).low ((HB6.out).mono (Nat.le_trans HU4.out.size HKW.out.size))).trans (HKS.out.more (fun y hy => by rw [List.mem_singleton.1 hy]; exact List.mem_cons_self ..))
end Go.Proofs.Ytpbobmiajjgekaa
