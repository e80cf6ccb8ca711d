/- The walk of MacSame. (Written by gen_mlaws.py.) -/
import Derived.Test.YtoekdiefbpnekaaDoorMHead
import Derived.Test.YtoekdiefbpnekaaDoorOpen
import Derived.Test.YtoekdiefbpnekaaDoorAppOp
namespace Go.Proofs.YtoekdiefbpnekaaDoor
set_option linter.unusedVariables false
set_option linter.unusedSimpArgs false
open Go.RowKit

theorem OB.set {w : World} {B : Nat} {e : TypeId} {g c : Nat} {l : List UInt8} (h : OB w B e (some ⟨g, 0, none⟩) c l) (k : Nat) (x : UInt8) : OB (w.setCell ⟨g, k, none⟩ (.int .u8 (x.toNat : Int))) B e (some ⟨g, 0, none⟩) c (l.set k x) := by
  have := (World.ownsRow.stored h k (.int .u8 (x.toNat : Int))).1
  unfold OB
  rw [List.length_set, List.map_set]
  exact this
theorem set_eq (l : List UInt8) (k : Nat) (x : UInt8) (h : k < l.length) : l = l.set k x ↔ l.getD k 0 = x := by
  constructor
  · intro e
    have := congrArg (fun m => m.getD k 0) e
    simp only [List.getD, List.getElem?_set_self h, Option.getD_some] at this
    exact this
  · intro e
    apply List.ext_getElem (by rw [List.length_set])
    intro j h1 h2
    rw [List.getElem_set]
    split
    · rename_i hj; subst hj; rw [← e, List.getD, List.getElem?_eq_getElem h1]; rfl
    · rfl

set_option maxRecDepth 100000 in
set_option maxHeartbeats 4000000 in
theorem walk_MacSame (A : Option Addr) (l : List UInt8) (n c : Nat) (at2 : Int) (c3 : Int) (W : World) (w0 : InB W A l n c) (w1 : (Lit.int .u16 at2).wf = true) (w2 : (Lit.int .u8 c3).wf = true) (hG : Gl W) :
    Calls Tryd.prog 9 #[.slice A n c, .int .u16 at2, .int .u8 c3] W fun e w' => e = .returned (.bool true) ∧ Below W.heap.size W w' := by
  have hat : 0 ≤ at2 ∧ at2 ≤ 65535 := by
    have e1 : IntKind.u16.min = 0 := by decide
    have e2 : IntKind.u16.max = 65535 := by decide
    simp only [Lit.wf, e1, e2, Bool.and_eq_true, decide_eq_true_eq] at w1
    exact w1
  have hc3 : 0 ≤ c3 ∧ c3 ≤ 255 := by
    have e1 : IntKind.u8.min = 0 := by decide
    have e2 : IntKind.u8.max = 255 := by decide
    simp only [Lit.wf, e1, e2, Bool.and_eq_true, decide_eq_true_eq] at w2
    exact w2
  obtain ⟨atn, rfl⟩ := Int.eq_ofNat_of_zero_le hat.1
  obtain ⟨cn, rfl⟩ := Int.eq_ofNat_of_zero_le hc3.1
  obtain ⟨ch, rfl⟩ : ∃ ch : UInt8, ch.toNat = cn := ⟨UInt8.ofNat cn, by rw [UInt8.toNat_ofNat']; omega⟩
  have HI := Lib.hid w0
  have HG := Lib.hid hG
  have hat2 := hat.2
  clear w0 hG w1 w2 hat hc3
  by_cases g1 : 9000 < n
  · go_enter Tryd.func9, Tryd.ntmps9
    go_wp2_with fail
    refine (mhead_ok _ HG.out).mono ?_
    rintro e w1 ⟨rfl, hb1⟩
    go_wp2_with fail
    go_ret
    exact ⟨rfl, hb1⟩
  have hn : n ≤ 9000 := by omega
  have HN := Lib.hid (show n ≤ 1099511627776 by omega)
  have HRW := Lib.hid (show ∀ u, Below W.heap.size W u → Rb u u.heap.size A l from fun u hu => (HI.out.rb.below hu (Nat.le_refl _)).more hu.size)
  have HLN := Lib.hid (show decide (l = l ++ [ch]) = false by
    apply decide_eq_false
    intro h
    have := congrArg List.length h
    rw [List.length_append, List.length_singleton] at this
    omega)
  have hn2 : (n : Int) ≤ 9000 := by omega
  clear g1
  go_enter Tryd.func9, Tryd.ntmps9
  go_wp2_with fail
  refine (mhead_ok _ HG.out).mono ?_
  rintro e w1 ⟨rfl, hb1⟩
  have HB1 := Lib.hid hb1
  clear hb1
  have HA1 := Lib.hid (show ∀ ob : Obj, Below W.heap.size W (w1.alloc ob) from fun ob => HB1.out.alloc HB1.out.size _)
  go_wp2_with (at_builtin; refine wp_app_any rfl (.tmp 15) (.tmp 16) 22 5 rfl Tryd.underlying22 bytesInfo W.heap.size [] _ 0 0 rfl rfl (OB.new 5 [] HB1.out.size (by decide)) l A n c _ rfl HI.out.len HI.out.nil_ (HRW.out _ (HA1.out _)) (by have := HI.out.len; simp only [List.length_nil]; omega) (HA1.out _).size ?_; intro A2 c2 w2 ho2 hg2 hb2; rw [show (([] : List UInt8) ++ l).length = n from HI.out.len])
  have HO2 := Lib.hid (show OB w2 W.heap.size 5 A2 c2 l from ho2)
  have HB2 := Lib.hid ((HA1.out _).trans hb2)
  clear ho2 hg2 hb2
  refine (same_ok A n c l A2 n c2 l true _ HI.out.len HI.out.len HN.out HN.out (HRW.out _ HB2.out) HO2.out.rb (by simp)).mono ?_
  rintro e w3 ⟨rfl, hb3⟩
  have HO3 := Lib.hid (show OB w3 W.heap.size 5 A2 c2 l from HO2.out.stay hb3 (Nat.le_refl _))
  have HB3 := Lib.hid (HB2.out.trans (hb3.mono HB2.out.size))
  clear hb3 HO2 HB2 HB1 HA1
  have HA3 := Lib.hid (show ∀ ob : Obj, Below W.heap.size W (w3.alloc ob) from fun ob => HB3.out.alloc HB3.out.size _)
  have hE : OB (w3.alloc (.cells #[] 5)) w3.heap.size 5 (some ⟨w3.heap.size, 0, none⟩) 0 [] := OB.new 5 [] (Nat.le_refl _) (by decide)
  have HE := Lib.hid hE
  have HZ3 := Lib.hid (show w3.heap.size ≤ (w3.alloc (.cells #[] 5)).heap.size by simp)
  clear hE
  go_wp2_with (first
    | (at_builtin; refine wpList_wanted (by kernel_rfl) (fun K hK => ?_); refine op_app_any (.tmp 24) (.tmp 25) 22 5 rfl Tryd.underlying22 bytesInfo w3.heap.size [] _ 0 0 rfl rfl HE.out l A n c _ rfl HI.out.len HI.out.nil_ (HRW.out _ (HA3.out _)) (by have := HI.out.len; simp only [List.length_nil]; omega) HZ3.out ?_; intro A4 c4 w4 ho4 hg4 hb4; refine hK _ _ ?_; rw [show (([] : List UInt8) ++ l).length = n from HI.out.len]; clear hK)
    | (at_builtin; refine wpList_wanted (by kernel_rfl) (fun K hK => ?_); refine op_app (.tmp 26) (.tmp 28) 22 5 rfl Tryd.underlying22 bytesInfo w3.heap.size l A4 n c4 rfl HI.out.len (OB.alloc ho4 _) [ch] _ 1 _ _ rfl rfl (Rb.one (w := w4) (c := ch) rfl rfl) (by have := HI.out.len; simp only [List.length_singleton]; omega) (by have := hb4.size; have := HZ3.out; simp only [World.size_alloc] at *; omega) ?_; intro A5 c5 w5 ho5 hg5 hb5; refine hK _ _ ?_; rw [show (l ++ [ch]).length = n + 1 by rw [List.length_append, HI.out.len]; rfl]; clear hK))
  have HO5 := Lib.hid ho5
  have HB4 := Lib.hid (show Below w3.heap.size w3 w4 from ((Below.refl _ _).alloc (Nat.le_refl _) _).trans hb4)
  have HB5 := Lib.hid (show Below w3.heap.size w3 w5 from (HB4.out.alloc HB4.out.size _).trans hb5)
  have HW5 := Lib.hid (HB3.out.trans (HB5.out.mono HB3.out.size))
  clear ho4 hg4 hb4 ho5 hg5 hb5 HB4 HE HZ3
  refine (same_ok A n c l A5 (n + 1) c5 (l ++ [ch]) false _ HI.out.len (by rw [List.length_append, HI.out.len]; rfl) HN.out (by have := HN.out; omega) (HRW.out _ HW5.out) HO5.out.rb HLN.out).mono ?_
  rintro e w6 ⟨rfl, hb6⟩
  have HB6 := Lib.hid (HB5.out.trans (hb6.mono HB5.out.size))
  have HW6 := Lib.hid (HB3.out.trans (HB6.out.mono HB3.out.size))
  have HX6 := Lib.hid (show OB w6 W.heap.size 5 A2 c2 l from HO3.out.stay HB6.out (Nat.le_refl _))
  clear hb6 HO5 HB5 HW5 HB6 HO3 HB3 HA3
  by_cases hn0 : n = 0
  · subst hn0
    go_wp2_with fail
    go_ret
    exact ⟨rfl, HW6.out⟩
  have hn1 : 0 < n := by omega
  have hn3 : ((n : Int) == 0) = false := by rw [beq_eq_false_iff_ne]; omega
  obtain ⟨k, hk⟩ : ∃ k, k = atn % n := ⟨_, rfl⟩
  have hkn : k < n := by rw [hk]; exact Nat.mod_lt _ hn1
  have z1 : (atn : Int) % (n : Int) = (k : Int) := by rw [hk]; exact (Int.natCast_emod _ _).symm
  have z2 : (atn : Int).tmod (n : Int) = (k : Int) := by rw [Int.tmod_eq_emod_of_nonneg (by omega)]; exact z1
  obtain ⟨g, rfl, hg1, hg2⟩ := HX6.out.form (by intro h; have := HI.out.len; rw [h] at this; simp at this; omega)
  have HSET := Lib.hid (HX6.out.set k ch)
  have hcell : w6.cell? ⟨g, k, none⟩ = some (.int .u8 ((l.getD k 0).toNat : Int)) := by
    have := World.ownsRow.cellAt HX6.out k (by have := HI.out.len; omega)
    rw [this, List.getElem?_map, List.getElem?_eq_getElem (by have := HI.out.len; omega)]
    simp [List.getD, show k < l.length by have := HI.out.len; omega]
  have hfro : w6.frozen? ⟨g, k, none⟩ = false := World.ownsRow.frozenAt HX6.out k
  have HK := Lib.hid (And.intro hk hkn)
  have HGG := Lib.hid (And.intro hg1 hg2)
  have hk2 : (k : Int) < (n : Int) := by omega
  clear hk hg1 hg2 hn0
  go_upto_region 11 with fail
  refine gen_world (fun u => OB u W.heap.size 5 (some ⟨g, 0, none⟩) c2 (l.set k ch) ∧ Below W.heap.size W u) ⟨HSET.out, HW6.out.setCell (p := ⟨g, k, none⟩) HGG.out.1 _⟩ (fun w7 hw7 => ?_)
  clear hcell hfro
  have HX7 := Lib.hid hw7.1
  have HW7 := Lib.hid hw7.2
  clear hw7 HSET HX6 HW6
  obtain ⟨b, o, rfl, hb, hcb⟩ := HI.out.rb.at_ (by have := HI.out.len; omega)
  have hcell : w7.cell? ⟨b, o + k, none⟩ = some (.int .u8 ((l.getD k 0).toNat : Int)) := (HW7.out.cell (p := ⟨b, o + k, none⟩) hb).trans (hcb k (by have := HI.out.len; omega))
  have HSQ := Lib.hid (set_eq l k ch (by have := HI.out.len; omega))
  have HV := Lib.hid (show ∀ v : Bool, decide (l.getD k 0 = ch) = v → decide (l = l.set k ch) = v ∧ decide (l.set k ch = l) = v from fun v hv => ⟨by rw [← hv, decide_eq_decide]; exact HSQ.out, by rw [← hv, decide_eq_decide]; exact ⟨fun h => HSQ.out.1 h.symm, fun h => (HSQ.out.2 h).symm⟩⟩)
  have HQ1 := Lib.hid (show ∀ (v : Bool), decide (l.getD k 0 = ch) = v → ∀ m, Calls Tryd.prog 23 #[.slice (some ⟨b, o, none⟩) n c, .slice (some ⟨g, 0, none⟩) n c2] (w7.drewN m) fun e w' => e = .returned (.bool v) ∧ ∃ k, w' = (w7.drewN m).drewN k from
    fun v hv m => same_q _ n c l _ n c2 (l.set k ch) v _ HI.out.len (by rw [List.length_set]; exact HI.out.len) HN.out HN.out (HRW.out w7 HW7.out) HX7.out.rb (HV.out v hv).1)
  have HQ2 := Lib.hid (show ∀ (v : Bool), decide (l.getD k 0 = ch) = v → ∀ m, Calls Tryd.prog 23 #[.slice (some ⟨g, 0, none⟩) n c2, .slice (some ⟨b, o, none⟩) n c] (w7.drewN m) fun e w' => e = .returned (.bool v) ∧ ∃ k, w' = (w7.drewN m).drewN k from
    fun v hv m => same_q _ n c2 (l.set k ch) _ n c l v _ (by rw [List.length_set]; exact HI.out.len) HI.out.len HN.out HN.out HX7.out.rb (HRW.out w7 HW7.out) (HV.out v hv).2)
  have HQ3 := Lib.hid (show ∀ (A3 : Option Addr) (c3 : Nat), Rb w7 w7.heap.size A3 (l.drop 1) → ∀ m, Calls Tryd.prog 23 #[.slice (some ⟨b, o, none⟩) n c, .slice A3 (n - 1) c3] (w7.drewN m) fun e w' => e = .returned (.bool false) ∧ ∃ k, w' = (w7.drewN m).drewN k from
    fun A3 c3 hR m => same_q _ n c l _ (n - 1) c3 (l.drop 1) false _ HI.out.len (by rw [List.length_drop, HI.out.len]) HN.out (by have := HN.out; omega) (HRW.out w7 HW7.out) hR (by
      apply decide_eq_false
      intro h
      have := congrArg List.length h
      rw [List.length_drop, HI.out.len] at this
      omega))
  have HT := Lib.hid (show Rb w7 w7.heap.size (tailA (some ⟨b, o, none⟩) c 1) (l.drop 1) from (HRW.out _ HW7.out).tail 1 (by rw [HI.out.len]; exact HI.out.cap))
  have hcap := HI.out.cap
  have hmax := HI.out.max
  unfold maxLen at hmax
  obtain ⟨p, hp⟩ : ∃ p, p = l.getD k 0 := ⟨_, rfl⟩
  rw [← hp] at hcell HQ1 HQ2
  clear hp hcb hb HSQ HV
  by_cases hc1 : c = 1
  · have hnn : n = 1 := by omega
    have HT1 := Lib.hid (show Rb w7 w7.heap.size (some ⟨b, o, none⟩) (l.drop 1) by have := HT.out; unfold tailA at this; rw [if_pos hc1] at this; exact this)
    have HQ4 := Lib.hid (HQ3.out _ 0 HT1.out)
    subst hc1
    subst hnn
    clear HT HT1 HQ3
    by_cases hpc : p = ch
    · subst hpc
      have HA := Lib.hid (HQ1.out true (by simp))
      have HC := Lib.hid (HQ2.out true (by simp))
      clear HQ1 HQ2
      go_quiet (((go_at_call 23; first | (with_reducible exact Calls.quiet_of (HA.out _)) | (with_reducible exact Calls.quiet_of (HC.out _)) | (with_reducible exact Calls.quiet_of (HQ4.out _)))))
      go_wp2_with fail
      go_ret
      exact ⟨rfl, Below.drewN' HW7.out _⟩
    · have HA := Lib.hid (HQ1.out false (decide_eq_false hpc))
      have HC := Lib.hid (HQ2.out false (decide_eq_false hpc))
      have hpb : ((p.toNat : Int) == (ch.toNat : Int)) = false := by
        rw [beq_eq_false_iff_ne]
        intro h
        exact hpc (UInt8.toNat_inj.1 (by omega))
      have hpd : ¬ ((p.toNat : Int) = (ch.toNat : Int)) := by
        intro h
        exact hpc (UInt8.toNat_inj.1 (by omega))
      clear HQ1 HQ2 hpc
      go_quiet (((go_at_call 23; first | (with_reducible exact Calls.quiet_of (HA.out _)) | (with_reducible exact Calls.quiet_of (HC.out _)) | (with_reducible exact Calls.quiet_of (HQ4.out _)))))
      go_wp2_with fail
      go_ret
      exact ⟨rfl, Below.drewN' HW7.out _⟩
  · have hc2 : (1 : Int) < (c : Int) := by omega
    have HT1 := Lib.hid (show Rb w7 w7.heap.size (some ⟨b, o + 1, none⟩) (l.drop 1) by
      have := HT.out
      unfold tailA at this
      rw [if_neg (by omega), Option.map_some, Nat.mul_one, add_plain] at this
      exact this)
    have HQ4 := Lib.hid (HQ3.out _ (c - 1) HT1.out)
    have hn4 : (1 : Int) ≤ (n : Int) := by omega
    have hcn : (n : Int) ≤ (c : Int) := by omega
    have hc3 : ¬ (c = 1) := hc1
    clear HT HT1 HQ3
    by_cases hpc : p = ch
    · subst hpc
      have HA := Lib.hid (HQ1.out true (by simp))
      have HC := Lib.hid (HQ2.out true (by simp))
      clear HQ1 HQ2
      go_quiet (((go_at_call 23; first | (with_reducible exact Calls.quiet_of (HA.out _)) | (with_reducible exact Calls.quiet_of (HC.out _)) | (with_reducible exact Calls.quiet_of (HQ4.out _)))))
      go_wp2_with fail
      go_ret
      exact ⟨rfl, Below.drewN' HW7.out _⟩
    · have HA := Lib.hid (HQ1.out false (decide_eq_false hpc))
      have HC := Lib.hid (HQ2.out false (decide_eq_false hpc))
      have hpb : ((p.toNat : Int) == (ch.toNat : Int)) = false := by
        rw [beq_eq_false_iff_ne]
        intro h
        exact hpc (UInt8.toNat_inj.1 (by omega))
      have hpd : ¬ ((p.toNat : Int) = (ch.toNat : Int)) := by
        intro h
        exact hpc (UInt8.toNat_inj.1 (by omega))
      clear HQ1 HQ2 hpc
      go_quiet (((go_at_call 23; first | (with_reducible exact Calls.quiet_of (HA.out _)) | (with_reducible exact Calls.quiet_of (HC.out _)) | (with_reducible exact Calls.quiet_of (HQ4.out _)))))
      go_wp2_with fail
      go_ret
      exact ⟨rfl, Below.drewN' HW7.out _⟩
end Go.Proofs.YtoekdiefbpnekaaDoor
