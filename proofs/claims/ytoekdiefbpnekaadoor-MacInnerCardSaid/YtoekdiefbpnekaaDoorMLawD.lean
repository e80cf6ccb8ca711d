/- The walk of MacInner. (Written by gen_rest.py.) -/
import Derived.Test.YtoekdiefbpnekaaDoorMHead
import Derived.Test.YtoekdiefbpnekaaDoorRSum
import Derived.Test.YtoekdiefbpnekaaDoorConv
import Derived.Test.YtoekdiefbpnekaaDoorOpen
namespace Go.Proofs.YtoekdiefbpnekaaDoor
set_option linter.unusedVariables false
set_option linter.unusedSimpArgs false
open Go.RowKit

theorem OB.of_bk {w : World} {B g : Nat} {e : TypeId} {l : List UInt8} (h : Bk w g e (bcells l)) (hB : B ≤ g) (hl : l.length ≤ 140737488355328) : OB w B e (some ⟨g, 0, none⟩) l.length l :=
  ⟨by simp, .inr ⟨g, l.length, bcells l, rfl, hB, h, Nat.le_refl _, by unfold maxLen; omega, by simp [bcells], by rw [Nat.mul_one, show (bcells l).toList = l.map u8 by simp [bcells]]; exact List.take_of_length_le (by simp)⟩⟩
theorem zcells (m : Nat) : bcells (List.replicate m 0) = Array.replicate m (.int .u8 0) := by unfold bcells; rw [List.map_replicate]; simp
theorem OB.setRowFar {w : World} {B : Nat} {e : TypeId} {A : Option Addr} {c : Nat} {l : List UInt8} (h : OB w B e A c l) {g' : Nat} (hne : ∀ k, (Value.slice A l.length c).ownBlock = some k → k ≠ g') (cs' : Array Value) : OB (w.setRow g' cs') B e A c l := by
  refine ⟨h.1, ?_⟩
  rcases h.2 with hn | ⟨g, cap, cur, hv, hg, hh, r⟩
  · exact .inl hn
  · refine .inr ⟨g, cap, cur, hv, hg, ?_, r⟩
    have : g ≠ g' := hne g (by rw [hv]; rfl)
    exact Bk.setRowFar hh this cs'
theorem fill_gen (N : Nat) (l : List UInt8) (i : Nat) (hl : l.length = N) (h : i < N) :
    (bcells (l.take i ++ List.replicate (N - i) 0))[i]? = some (.int .u8 0) ∧ (bcells (l.take i ++ List.replicate (N - i) 0)).setIfInBounds i (u8 (l.getD i 0)) = bcells (l.take (i + 1) ++ List.replicate (N - (i + 1)) 0) := by
  have hi : (l.take i).length = i := by rw [List.length_take]; omega
  obtain ⟨k, hk⟩ : ∃ k, N - i = k + 1 := ⟨N - i - 1, by omega⟩
  rw [hk, show N - (i + 1) = k by omega]
  constructor
  · have e : (l.take i ++ List.replicate (k + 1) (0 : UInt8))[i]? = some 0 := by
      rw [List.getElem?_append_right (by omega), hi, Nat.sub_self, List.getElem?_replicate, if_pos (by omega)]
    obtain ⟨hlt, he⟩ := List.getElem?_eq_some_iff.1 e
    rw [bcells_at _ i hlt, he]; rfl
  · have := fill_put (l.take i) k (l.getD i 0)
    rw [hi] at this
    rw [this, List.take_add_one, List.getD, List.getElem?_eq_getElem (by omega)]
    rfl
theorem padB_at (l : List UInt8) (c : UInt8) (i : Nat) (hl : l.length ≤ 64) (h : i < 64) : (padB l c).getD i 0 = (if i < l.length then l.getD i 0 else 0) ^^^ c := by
  have e1 : keyB l = l ++ List.replicate (64 - l.length) 0 := by unfold keyB shortK; rw [if_neg (by omega)]
  unfold padB
  rw [e1, List.getD, List.getElem?_map]
  by_cases hi : i < l.length
  · rw [if_pos hi, List.getElem?_append_left hi, List.getElem?_eq_getElem hi, List.getD, List.getElem?_eq_getElem hi]; rfl
  · rw [if_neg hi, List.getElem?_append_right (by omega), List.getElem?_replicate, if_pos (by omega)]; rfl

set_option maxRecDepth 100000 in
set_option maxHeartbeats 4000000 in
theorem walk_MacInner (A : Option Addr) (l : List UInt8) (n c : Nat) (A' : Option Addr) (l' : List UInt8) (n' c' : Nat) (W : World) (w0 : InB W A l n c) (w1 : InB W A' l' n' c') (hG : Gl W) :
    Calls Tryd.prog 10 #[.slice A n c, .slice A' n' c'] W fun e w' => e = .returned (.bool true) ∧ Below W.heap.size W w' := by
  have HI := Lib.hid w0
  have HI2 := Lib.hid w1
  have HG := Lib.hid hG
  clear w0 w1 hG
  by_cases g1 : 64 < n
  · go_enter Tryd.func10, Tryd.ntmps10
    go_wp2_with fail
    refine (mhead_ok _ HG.out).mono ?_
    rintro e w1 ⟨rfl, hb1⟩
    go_wp2_with fail
    go_ret
    exact ⟨rfl, hb1⟩
  by_cases g2 : 9000 < n'
  · go_enter Tryd.func10, Tryd.ntmps10
    go_wp2_with fail
    refine (mhead_ok _ HG.out).mono ?_
    rintro e w1 ⟨rfl, hb1⟩
    go_wp2_with fail
    go_ret
    exact ⟨rfl, hb1⟩
  have hn64 : n ≤ 64 := by omega
  have HN := Lib.hid (show n ≤ 1099511627776 by omega)
  have HN' := Lib.hid (show n' ≤ 549755813888 by omega)
  have HGW := Lib.hid (show ∀ u, Below W.heap.size W u → Gl u from fun u hu => HG.out.below hu HG.out.size)
  have HRW := Lib.hid (show ∀ u, Below W.heap.size W u → Rb u u.heap.size A l from fun u hu => (HI.out.rb.below hu (Nat.le_refl _)).more hu.size)
  have HRW2 := Lib.hid (show ∀ u, Below W.heap.size W u → Rb u u.heap.size A' l' from fun u hu => (HI2.out.rb.below hu (Nat.le_refl _)).more hu.size)
  obtain ⟨IN, hIN⟩ : ∃ IN, IN = sum (padB l 54 ++ l') := ⟨_, rfl⟩
  obtain ⟨OUT, hOUT⟩ : ∃ OUT, OUT = sum (padB l 92 ++ IN) := ⟨_, rfl⟩
  have HMB := Lib.hid (show macB l l' = OUT by rw [hOUT, hIN]; rfl)
  have HIN := Lib.hid hIN
  have HOUT := Lib.hid hOUT
  have HIL := Lib.hid (show IN.length = 32 by rw [hIN, sum_len])
  have HOL := Lib.hid (show OUT.length = 32 by rw [hOUT, sum_len])
  have HEI := Lib.hid (show (Tryd.prog.info? 26).map (·.size) = some (bcells IN).size by rw [bcells_size, HIL.out]; kernel_rfl)
  have HEI2 := Lib.hid (show (bcells (List.replicate 32 0)).size = (bcells IN).size by rw [bcells_size, bcells_size, HIL.out, List.length_replicate])
  have hmk : ∀ u : World, (Instr.makeSlice 22 (.int .i64 64) (.int .i64 64)).run Tryd.prog u = .ok (.slice (some ⟨u.heap.size, 0, none⟩) 64 64) (u.alloc (.cells (bcells (List.replicate 64 0)) 5)) := fun u => mk_bytes (P := Tryd.prog) u 22 5 Tryd.underlying22 bytesInfo 64 (by omega) (bcells (List.replicate 64 0)) (zcells 64)
  clear hIN hOUT
  go_enter Tryd.func10, Tryd.ntmps10
  go_wp2_with fail
  refine (mhead_ok _ HG.out).mono ?_
  rintro e w1 ⟨rfl, hb1⟩
  have HB1 := Lib.hid hb1
  clear hb1
  go_upto_region 6 with fail
  refine gen_world (fun u => Bk u w1.heap.size 5 (bcells ((padB l 54).take 0 ++ List.replicate (64 - 0) 0)) ∧ Bk u (w1.heap.size + 1) 5 (bcells ((padB l 92).take 0 ++ List.replicate (64 - 0) 0)) ∧ Below W.heap.size W u) ?_ (fun w2 hw2 => ?_)
  · have h1 : Bk (w1.alloc (.cells (bcells (List.replicate 64 0)) 5)) w1.heap.size 5 (bcells (List.replicate 64 0)) := Bk.new _ _ _
    refine ⟨h1.alloc _, Bk.here ?_, (HB1.out.alloc HB1.out.size _).alloc (Nat.le_trans HB1.out.size (by simp)) _⟩
    show _ = (w1.heap.push _).size; rw [Array.size_push]
  have HGA := Lib.hid HB1.out.size
  obtain ⟨ga, hga⟩ : ∃ g, g = w1.heap.size := ⟨_, rfl⟩
  obtain ⟨gb, hgb⟩ : ∃ g, g = w1.heap.size + 1 := ⟨_, rfl⟩
  rw [← hgb, ← hga] at hw2 ⊢
  rw [← hga] at HGA
  have HGG := Lib.hid (show ga < gb by omega)
  have HA2 := Lib.hid hw2.1
  have HK2 := Lib.hid hw2.2.1
  have HB2 := Lib.hid hw2.2.2
  clear hw2 hga hgb HB1 hmk
  have hX1 : ∀ x : UInt8, bits .xor .u8 (x.toNat : Int) 54 = ((x ^^^ 54).toNat : Int) := fun x => b_xor x 54
  have hX2 : ∀ x : UInt8, bits .xor .u8 (x.toNat : Int) 92 = ((x ^^^ 92).toNat : Int) := fun x => b_xor x 92
  go_wp2_with fail
  go_loopw [8] (fun v8 wr => ∃ i : Nat, i ≤ 64 ∧ v8 = .int .i64 i ∧ Hid (Bk wr ga 5 (bcells ((padB l 54).take i ++ List.replicate (64 - i) 0))) ∧ Hid (Bk wr gb 5 (bcells ((padB l 92).take i ++ List.replicate (64 - i) 0))) ∧ Hid (Below W.heap.size W wr)) (fun v8 _ => 64 - (intOf v8).toNat)
  case atStart => exact ⟨0, by omega, rfl, HA2, HK2, HB2⟩
  case round =>
    obtain ⟨i, hi, rfl, HA, HBK, HB⟩ := hrel
    clear HA2 HK2 HB2
    by_cases hi1 : i < 64
    · have hi2 : (i : Int) < 64 := by omega
      have HFA := Lib.hid (fill_gen 64 (padB l 54) i (padB_len _ _) hi1)
      have HFB := Lib.hid (fill_gen 64 (padB l 92) i (padB_len _ _) hi1)
      rw [padB_at l 54 i (by rw [HI.out.len]; exact hn64) hi1] at HFA
      rw [padB_at l 92 i (by rw [HI.out.len]; exact hn64) hi1] at HFB
      have ca : wr.cell? ⟨ga, i, none⟩ = some (.int .u8 0) := (HA.out.cell i).trans HFA.out.1
      have fa : wr.frozen? ⟨ga, i, none⟩ = false := HA.out.frozen i
      have cb : wr.cell? ⟨gb, i, none⟩ = some (.int .u8 0) := (HBK.out.cell i).trans HFB.out.1
      have fb : wr.frozen? ⟨gb, i, none⟩ = false := HBK.out.frozen i
      have hne : ¬ (ga = gb) := by have := HGG.out; omega
      have hne2 : ¬ (gb = ga) := by have := HGG.out; omega
      by_cases hin : i < n
      · have hi3 : (i : Int) < (n : Int) := by omega
        rw [if_pos (by rw [HI.out.len]; exact hin)] at HFA HFB
        obtain ⟨b, o, rfl, hbW, hcW⟩ := HI.out.rb.at_ (by rw [HI.out.len]; omega)
        have hc0 : wr.cell? ⟨b, o + i, none⟩ = some (.int .u8 ((l.getD i 0).toNat : Int)) := (HB.out.cell (p := ⟨b, o + i, none⟩) hbW).trans (hcW i (by rw [HI.out.len]; exact hin))
        obtain ⟨x, hx⟩ : ∃ x, x = l.getD i 0 := ⟨_, rfl⟩
        rw [← hx] at HFA HFB hc0
        have HYA := Lib.hid (show Go.Proofs.YtoekdiefbpnekaaDoor.u8 (x ^^^ 54) = .int .u8 ((x.toNat ^^^ 54 : Nat) : Int) by show Value.int .u8 (((x ^^^ 54).toNat : Nat) : Int) = _; rw [UInt8.toNat_xor]; rfl)
        have HYB := Lib.hid (show Go.Proofs.YtoekdiefbpnekaaDoor.u8 (x ^^^ 92) = .int .u8 ((x.toNat ^^^ 92 : Nat) : Int) by show Value.int .u8 (((x ^^^ 92).toNat : Nat) : Int) = _; rw [UInt8.toNat_xor]; rfl)
        clear hx hbW hcW
        go_wp2_with fail
        go_roundw
        case rel =>
          refine ⟨i + 1, by omega, by go_num, Lib.hid ?_, Lib.hid ?_, Lib.hid ?_⟩
          · rw [← HFA.out.2, HYA.out]; exact (HA.out.set i _).far (p := ⟨gb, i, none⟩) (by have := HGG.out; show ga ≠ gb; omega) _
          · rw [← HFB.out.2, HYB.out]; exact (HBK.out.far (p := ⟨ga, i, none⟩) (by have := HGG.out; show gb ≠ ga; omega) _).set i _
          · exact (HB.out.setCell (p := ⟨ga, i, none⟩) HGA.out _).setCell (p := ⟨gb, i, none⟩) (by have := HGA.out; have := HGG.out; show W.heap.size ≤ gb; omega) _
        case measure => simp [intOf]; omega
      · have hi3 : (n : Int) ≤ (i : Int) := by omega
        rw [if_neg (by rw [HI.out.len]; exact hin)] at HFA HFB
        have HYA := Lib.hid (show Go.Proofs.YtoekdiefbpnekaaDoor.u8 ((0 : UInt8) ^^^ 54) = .int .u8 54 from rfl)
        have HYB := Lib.hid (show Go.Proofs.YtoekdiefbpnekaaDoor.u8 ((0 : UInt8) ^^^ 92) = .int .u8 92 from rfl)
        have hz1 : bits .xor .u8 0 54 = 54 := by decide
        have hz2 : bits .xor .u8 0 92 = 92 := by decide
        go_wp2_with fail
        go_roundw
        case rel =>
          refine ⟨i + 1, by omega, by go_num, Lib.hid ?_, Lib.hid ?_, Lib.hid ?_⟩
          · rw [← HFA.out.2, HYA.out]; exact (HA.out.set i _).far (p := ⟨gb, i, none⟩) (by have := HGG.out; show ga ≠ gb; omega) _
          · rw [← HFB.out.2, HYB.out]; exact (HBK.out.far (p := ⟨ga, i, none⟩) (by have := HGG.out; show gb ≠ ga; omega) _).set i _
          · exact (HB.out.setCell (p := ⟨ga, i, none⟩) HGA.out _).setCell (p := ⟨gb, i, none⟩) (by have := HGA.out; have := HGG.out; show W.heap.size ≤ gb; omega) _
        case measure => simp [intOf]; omega
    · have hi2 : (64 : Int) ≤ (i : Int) := by omega
      have HA2 := Lib.hid (show OB wr W.heap.size 5 (some ⟨ga, 0, none⟩) 64 (padB l 54) by
        have h1 := HA.out
        rw [show i = 64 by omega, List.take_of_length_le (by rw [padB_len]; omega), Nat.sub_self, List.replicate_zero, List.append_nil] at h1
        have := OB.of_bk h1 HGA.out (by rw [padB_len]; decide)
        rw [padB_len] at this
        exact this)
      have HK2 := Lib.hid (show OB wr W.heap.size 5 (some ⟨gb, 0, none⟩) 64 (padB l 92) by
        have h1 := HBK.out
        rw [show i = 64 by omega, List.take_of_length_le (by rw [padB_len]; omega), Nat.sub_self, List.replicate_zero, List.append_nil] at h1
        have := OB.of_bk (B := W.heap.size) h1 (by have := HGA.out; have := HGG.out; omega) (by rw [padB_len]; decide)
        rw [padB_len] at this
        exact this)
      clear HA HBK
      go_wp2_with (at_builtin; refine wp_app_any rfl (.tmp 45) (.tmp 46) 22 5 rfl Tryd.underlying22 bytesInfo W.heap.size (padB l 54) (some ⟨ga, 0, none⟩) 64 64 rfl (padB_len _ _) HA2.out l' A' n' _ _ rfl HI2.out.len HI2.out.nil_ (HRW2.out _ HB.out) (by rw [padB_len, HI2.out.len]; have := HN'.out; omega) HB.out.size ?_; intro A4 c4 w4 ho4 hg4 hb4; rw [show (padB l 54 ++ l').length = 64 + n' by rw [List.length_append, padB_len, HI2.out.len]])
      have HP4 := Lib.hid (show (padB l 54 ++ l').length = 64 + n' by rw [List.length_append, padB_len, HI2.out.len])
      have HO4 := Lib.hid ho4
      have hg5 : wr.grownBy w4 (some ga) := hg4
      have HK4 := Lib.hid (HK2.out.grown hg5 (.inr (by simp only [Value.ownBlock]; intro h; injection h with h; have := HGG.out; omega)))
      clear hg5
      have HB4 := Lib.hid (HB.out.trans hb4)
      clear ho4 hg4 hb4
      refine (rsum_ok A4 (64 + n') c4 (padB l 54 ++ l') _ HP4.out (by have := HO4.out.cap; rw [HP4.out] at this; exact this.1) (by have := HN'.out; omega) (by intro h; exfalso; obtain ⟨g, e, _⟩ := HO4.out.form (by intro h0; have := HP4.out; rw [h0] at this; simp at this; omega); rw [h] at e; cases e) HO4.out.rb).mono ?_
      rintro e w5 ⟨rfl, hb5⟩
      rw [show sum (padB l 54 ++ l') = IN from HIN.out.symm]
      have HK5 := Lib.hid (HK4.out.stay hb5 (Nat.le_refl _))
      have HB5 := Lib.hid (HB4.out.trans (hb5.mono HB4.out.size))
      have HGB5 := Lib.hid (show gb < w5.heap.size by obtain ⟨g, e, _, h⟩ := HK5.out.form (by intro h0; have := padB_len l 92; rw [h0] at this; simp at this); injection e with e; injection e with e1; omega)
      clear hb5 HO4 HK4 HB4
      go_upto_region 15 with (refine wpList_store_row rfl 26 (.tmp 10) (.tmp 48) rfl w5.heap.size _ rfl rfl 26 _ (zeros_new w5) HEI.out HEI2.out (bcells_one _) ?_)
      refine gen_world (fun u => OB u W.heap.size 5 (some ⟨gb, 0, none⟩) 64 (padB l 92) ∧ Bk u w5.heap.size 26 (bcells IN) ∧ Below W.heap.size W u) ⟨(HK5.out.alloc _).setRowFar (fun k hk => by simp only [Value.ownBlock] at hk; injection hk with hk; have := HGB5.out; omega) _, (zeros_new w5).setRow _, Below.setRow (HB5.out.alloc HB5.out.size _) _ HB5.out.size _⟩ (fun w6 hw6 => ?_)
      obtain ⟨gx, hgx⟩ : ∃ g, g = w5.heap.size := ⟨_, rfl⟩
      rw [← hgx] at hw6 ⊢
      have HO6 := Lib.hid hw6.1
      have HX6 := Lib.hid hw6.2.1
      have HB6 := Lib.hid hw6.2.2
      clear hw6 hgx HK5 HB5
      have HEQ := Lib.hid (show ∀ (ops : Array Oper) (oi : Oper) (a : Act) {x y : Operand} {d : TypeId}, Region.wanted oi (yielded ops a.tmps) = true → oi.op = .binOp .eql 26 x y d → a.eval x = .agg (bcells OUT) → a.eval y = .agg (bcells OUT) → YieldsIf Tryd.prog ops (fun u => Below W.heap.size W u) oi (.bool true) a from
        fun ops oi a x y d hw ho hx hy => .inl ⟨hw, fun w _ => by
          have h := eq_arr OUT HOL.out x y w
          unfold execOp
          simp only [ho, hx, hy]
          rw [Sem.run_bind, h]
          rfl⟩)
      go_wp2_with fail
      try simp only [List.cons_append, List.nil_append]
      refine wp_region_held_drew (S := fun u => Below W.heap.size W u) (by kernel_rfl) (HB6.out.drew) (fun hHeld => ?_)
      refine take_at (some 49) (i := 0) (v := ?_) rfl rfl (by kernel_rfl) (by kernel_rfl) (by kernel_rfl) (fun _ _ _ h => h) (Or.inl ⟨by kernel_rfl, ?_⟩) hHeld ?_
      rotate_left
      · intro wz hSw; go_simp; try (with_reducible rfl)
      try simp only [Act.put, List.setIfInBounds_toArray, List.set_cons_zero, List.set_cons_succ, List.getElem_toArray, List.getElem_cons_succ, List.getElem_cons_zero]
      refine take_at (some 50) (i := 1) (v := ?_) rfl rfl (by kernel_rfl) (by kernel_rfl) (by kernel_rfl) (fun _ _ _ h => h) (Or.inl ⟨by kernel_rfl, ?_⟩) hHeld ?_
      rotate_left
      · intro wz hSw; go_simp; try (with_reducible rfl)
      try simp only [Act.put, List.setIfInBounds_toArray, List.set_cons_zero, List.set_cons_succ, List.getElem_toArray, List.getElem_cons_succ, List.getElem_cons_zero]
      refine take_at (some 51) (i := 2) (v := ?_) rfl rfl (by kernel_rfl) (by kernel_rfl) (by kernel_rfl) (fun _ _ _ h => h) (Or.inl ⟨by kernel_rfl, ?_⟩) hHeld ?_
      rotate_left
      · intro wz hSw; go_simp; try (with_reducible rfl)
      try simp only [Act.put, List.setIfInBounds_toArray, List.set_cons_zero, List.set_cons_succ, List.getElem_toArray, List.getElem_cons_succ, List.getElem_cons_zero]
      refine take_at (some 52) (i := 3) (v := ?_) rfl rfl (by kernel_rfl) (by kernel_rfl) (by kernel_rfl) (fun _ _ _ h => h) (Or.inl ⟨by kernel_rfl, ?_⟩) hHeld ?_
      rotate_left
      · intro wz hSw; go_simp; try (with_reducible rfl)
      try simp only [Act.put, List.setIfInBounds_toArray, List.set_cons_zero, List.set_cons_succ, List.getElem_toArray, List.getElem_cons_succ, List.getElem_cons_zero]
      refine take_at (some 54) (i := 5) (v := ?_) rfl rfl (by kernel_rfl) (by kernel_rfl) (by kernel_rfl) (fun _ _ _ h => h) (Or.inl ⟨by kernel_rfl, ?_⟩) hHeld ?_
      rotate_left
      · intro wz hSw; go_simp; try (with_reducible rfl)
      try simp only [Act.put, List.setIfInBounds_toArray, List.set_cons_zero, List.set_cons_succ, List.getElem_toArray, List.getElem_cons_succ, List.getElem_cons_zero]
      refine take_at (some 55) (i := 6) (v := ?_) rfl rfl (by kernel_rfl) (by kernel_rfl) (by kernel_rfl) (fun _ _ _ h => h) (Or.inl ⟨by kernel_rfl, ?_⟩) hHeld ?_
      rotate_left
      · intro wz hSw; go_simp; try (with_reducible rfl)
      try simp only [Act.put, List.setIfInBounds_toArray, List.set_cons_zero, List.set_cons_succ, List.getElem_toArray, List.getElem_cons_succ, List.getElem_cons_zero]
      refine wpAnyH_ready (rs := [4]) (by kernel_rfl) (by simp) (AllReadyH.cons rfl (fun K hK => ?_) AllReadyH.nil)
      rw [if_pos (by kernel_rfl)]
      go_simp
      refine (mac_ok A n c l A' n' c' l' _ HI.out.len HI.out.cap HI.out.max HN.out (HRW.out _ hHeld) HI2.out.len HN'.out (HRW2.out _ hHeld) HI2.out.nil_ (HGW.out _ hHeld)).mono ?_
      rintro e w7 ⟨rfl, hb⟩
      rw [HMB.out]
      have HO7 := Lib.hid (HO6.out.drew.stay hb (Nat.le_refl _))
      have HX7 := Lib.hid (HX6.out.drew.below hb HX6.out.lt)
      have HS7 := Lib.hid (hHeld.trans (hb.mono hHeld.size))
      clear hb hHeld
      try dsimp only
      refine hK.out _ _ HS7.out (fun hHeld => ?_)
      try simp only [Act.put, List.setIfInBounds_toArray, List.set_cons_zero, List.set_cons_succ, List.getElem_toArray, List.getElem_cons_succ, List.getElem_cons_zero]
      refine wpAnyH_ready (rs := [7]) (by kernel_rfl) (by simp) (AllReadyH.cons rfl (fun K hK => ?_) AllReadyH.nil)
      rw [if_pos (by kernel_rfl)]
      refine op_app (.tmp 54) (.tmp 55) 22 5 rfl Tryd.underlying22 bytesInfo W.heap.size (padB l 92) (some ⟨gb, 0, none⟩) 64 64 rfl (padB_len _ _) HO7.out IN (⟨gx, 0, none⟩) 32 32 _ rfl HIL.out (Rb.row HX7.out HX7.out.lt) (by rw [padB_len, HIL.out]; decide) HS7.out.size ?_
      intro A8 c8 w8 ho8 hg8 hb8
      have HO8 := Lib.hid ho8
      have HL8 := Lib.hid (show (padB l 92 ++ IN).length = 96 by rw [List.length_append, padB_len, HIL.out])
      rw [HL8.out]
      have HS8 := Lib.hid (HS7.out.trans hb8)
      clear ho8 hg8 hb8 hHeld
      refine hK.out _ _ HS8.out (fun hHeld => ?_)
      try simp only [Act.put, List.setIfInBounds_toArray, List.set_cons_zero, List.set_cons_succ, List.getElem_toArray, List.getElem_cons_succ, List.getElem_cons_zero]
      refine wpAnyH_ready (rs := [8]) (by kernel_rfl) (by simp) (AllReadyH.cons rfl (fun K hK => ?_) AllReadyH.nil)
      rw [if_pos (by kernel_rfl)]
      go_simp
      refine (rsum_ok A8 96 c8 (padB l 92 ++ IN) _ HL8.out (by have := HO8.out.cap; rw [HL8.out] at this; exact this.1) (by omega) (by intro h; exfalso; obtain ⟨g, e, _⟩ := HO8.out.form (by intro h0; have := HL8.out; rw [h0] at this; simp at this); rw [h] at e; cases e) HO8.out.rb).mono ?_
      rintro e w9 ⟨rfl, hb⟩
      rw [show sum (padB l 92 ++ IN) = OUT from HOUT.out.symm]
      have HS9 := Lib.hid (HS8.out.trans (hb.mono HS8.out.size))
      clear hb hHeld
      try dsimp only
      refine hK.out _ _ HS9.out (fun hHeld => ?_)
      try simp only [Act.put, List.setIfInBounds_toArray, List.set_cons_zero, List.set_cons_succ, List.getElem_toArray, List.getElem_cons_succ, List.getElem_cons_zero]
      refine take_at (some 58) (i := 9) rfl rfl (by kernel_rfl) (by kernel_rfl) (by kernel_rfl) (fun _ _ _ h => h) (HEQ.out _ _ _ (by kernel_rfl) rfl rfl rfl) hHeld ?_
      try simp only [Act.put, List.setIfInBounds_toArray, List.set_cons_zero, List.set_cons_succ, List.getElem_toArray, List.getElem_cons_succ, List.getElem_cons_zero]
      refine take_at (some 59) (i := 10) (v := ?_) rfl rfl (by kernel_rfl) (by kernel_rfl) (by kernel_rfl) (fun _ _ _ h => h) (Or.inl ⟨by kernel_rfl, ?_⟩) hHeld ?_
      rotate_left
      · intro wz hSw; go_simp; try (with_reducible rfl)
      try simp only [Act.put, List.setIfInBounds_toArray, List.set_cons_zero, List.set_cons_succ, List.getElem_toArray, List.getElem_cons_succ, List.getElem_cons_zero]
      refine take_at (some 4) (i := 11) (v := ?_) rfl rfl (by kernel_rfl) (by kernel_rfl) (by kernel_rfl) (fun _ _ _ h => h) (Or.inl ⟨by kernel_rfl, ?_⟩) hHeld ?_
      rotate_left
      · intro wz hSw; go_simp; try (with_reducible rfl)
      try simp only [Act.put, List.setIfInBounds_toArray, List.set_cons_zero, List.set_cons_succ, List.getElem_toArray, List.getElem_cons_succ, List.getElem_cons_zero]
      refine wpAnyH_done (by kernel_rfl) ?_ _
      go_wp2_with fail
      go_ret
      exact ⟨rfl, hHeld⟩
end Go.Proofs.YtoekdiefbpnekaaDoor
