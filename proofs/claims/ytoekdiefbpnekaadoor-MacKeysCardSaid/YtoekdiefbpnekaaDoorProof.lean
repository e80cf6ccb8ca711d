/- mac.Proof: the proof of words. -/
import Derived.Test.YtoekdiefbpnekaaDoorMac
import Derived.Test.YtoekdiefbpnekaaDoorHex
import Derived.Test.YtoekdiefbpnekaaDoorStrs
namespace Go.Proofs.YtoekdiefbpnekaaDoor
set_option linter.unusedVariables false
set_option linter.unusedSimpArgs false
open Go.RowKit

theorem textB_none (s : ByteArray) (h : 255 < s.size) : textB s = [] := by unfold textB; rw [if_neg (by omega)]
theorem textB_some (s : ByteArray) (h : s.size ≤ 255) : (textB s).length = s.size + 1 := by
  unfold textB; rw [if_pos h, List.length_cons]; rfl
theorem proofB_long (key : List UInt8) (ws : List ByteArray) (i : Nat) (h : i < ws.length) (h2 : 255 < ws[i].size) : proofB key ws = [] := by
  unfold proofB; rw [if_neg]
  intro h3
  have := h3 ws[i] (List.getElem_mem h)
  omega
theorem proofB_short (key : List UInt8) (ws : List ByteArray) (h : ∀ j, (hj : j < ws.length) → ws[j].size ≤ 255) : proofB key ws = hexB (macB key (textsB ws)) := by
  unfold proofB; rw [if_pos]
  intro x hx
  obtain ⟨j, hj, rfl⟩ := List.mem_iff_getElem.1 hx
  exact h j hj
theorem textsB_part (ws : List ByteArray) (i : Nat) : (textsB (ws.take i)).length ≤ (textsB ws).length := by
  have : textsB ws = textsB (ws.take i) ++ textsB (ws.drop i) := by
    unfold textsB; rw [← List.flatten_append, ← List.map_append, List.take_append_drop]
  rw [this, List.length_append]; omega

/-- A slice of texts, at any world. -/
def Rs (w : World) (B : Nat) (A : Option Addr) (l : List ByteArray) : Prop :=
  l = [] ∨ ∃ b o, A = some ⟨b, o, none⟩ ∧ b < B ∧ ∀ i, (h : i < l.length) → w.cell? ⟨b, o + i, none⟩ = some (.string l[i])
theorem Rs.below {w w' : World} {B B' : Nat} {A : Option Addr} {l : List ByteArray} (h : Rs w B A l) (hb : Below B' w w') (hB : B ≤ B') : Rs w' B A l := by
  rcases h with h | ⟨b, o, e, hlt, hc⟩
  · exact .inl h
  · exact .inr ⟨b, o, e, hlt, fun i hi => (hb.cell (p := ⟨b, o + i, none⟩) (by show b < B'; omega)).trans (hc i hi)⟩
theorem Rs.more {w : World} {B B' : Nat} {A : Option Addr} {l : List ByteArray} (h : Rs w B A l) (hB : B ≤ B') : Rs w B' A l := by
  rcases h with h | ⟨b, o, e, hlt, hc⟩
  · exact .inl h
  · exact .inr ⟨b, o, e, by omega, hc⟩
theorem InS.rs {W : World} {A : Option Addr} {l : List ByteArray} {n c : Nat} (h : InS W A l n c) : Rs W W.heap.size A l := by
  rcases h.at_ with h0 | ⟨b, o, e, hb, hc⟩
  · left; exact List.eq_nil_of_length_eq_zero (by rw [h.len, h0])
  · exact .inr ⟨b, o, e, hb, hc⟩

set_option maxRecDepth 100000 in
set_option maxHeartbeats 4000000 in
theorem proof_ok (A : Option Addr) (n c : Nat) (key : List UInt8) (A' : Option Addr) (n' c' : Nat) (ws : List ByteArray) (w : World) (hl : key.length = n) (hc : n ≤ c) (hmax : c ≤ 9223372036854775807) (hn : n ≤ 1099511627776) (hR : Rb w w.heap.size A key)
    (hl' : ws.length = n') (hn' : n' ≤ 1099511627776) (hR' : Rs w w.heap.size A' ws) (hsm : ∀ x ∈ ws, x.size ≤ 140737488355328) (htx : (textsB ws).length ≤ 549755813888) (hG : Gl w) :
    Calls Tryd.prog 25 #[.slice A n c, .slice A' n' c'] w fun e w' => e = .returned (.string ⟨(proofB key ws).toArray⟩) ∧ Below w.heap.size w w' := by
  have HL := Lib.hid hl
  have HCP := Lib.hid hc
  have HMX := Lib.hid hmax
  have HN := Lib.hid hn
  have HR := Lib.hid hR
  have HL' := Lib.hid hl'
  have HR' := Lib.hid hR'
  have HSM := Lib.hid hsm
  have HTX := Lib.hid htx
  have HG := Lib.hid hG
  clear hl hc hmax hn hR hl' hR' hsm htx hG
  go_enter Tryd.func25, Tryd.ntmps25
  go_wp2_with fail
  go_loopw [12, 5] (fun v12 v5 wr => ∃ (i : Nat) (A2 : Option Addr) (c2 L : Nat), i ≤ n' ∧ v12 = .int .i64 i ∧ v5 = .slice A2 L c2 ∧ Hid ((textsB (ws.take i)).length = L) ∧ Hid (∀ j, (hj : j < ws.length) → j < i → ws[j].size ≤ 255) ∧ Hid (OB wr w.heap.size 5 A2 c2 (textsB (ws.take i))) ∧ Hid (A2 = none → L = 0 ∧ c2 = 0) ∧ Hid (Below w.heap.size w wr)) (fun v12 _ _ => n' - (intOf v12).toNat)
  case atStart => exact ⟨0, none, 0, 0, by omega, rfl, rfl, Lib.hid rfl, Lib.hid (fun j _ h => by omega), Lib.hid (OB.nil _ _ _), Lib.hid (fun _ => ⟨rfl, rfl⟩), Lib.hid (by go_grown)⟩
  case round =>
    obtain ⟨i, A2, c2, L, hi, rfl, rfl, HT, HJ, HO, HNL, HB⟩ := hrel
    by_cases hi1 : i < n'
    · have hi2 : (i : Int) < (n' : Int) := by omega
      have hiw : i < ws.length := by rw [HL'.out]; exact hi1
      obtain ⟨b, o, rfl, hcell⟩ : ∃ b o, A' = some ⟨b, o, none⟩ ∧ wr.cell? ⟨b, o + i, none⟩ = some (.string ws[i]) := by
        rcases HR'.out with h | ⟨b, o, e, hb, hc⟩
        · subst h; simp at hiw
        · exact ⟨b, o, e, (HB.out.cell (p := ⟨b, o + i, none⟩) hb).trans (hc i hiw)⟩
      have HT2 := Lib.hid (textsB_take ws i hiw)
      have HS := Lib.hid (HSM.out ws[i] (List.getElem_mem hiw))
      have HLB := Lib.hid (textsB_part ws (i + 1))
      have HLG := Lib.hid (fun h => proofB_long key ws i hiw h)
      have HJ2 := Lib.hid (show ∀ s : ByteArray, s = ws[i] → s.size ≤ 255 → ∀ j, (hj : j < ws.length) → j < i + 1 → ws[j].size ≤ 255 by
        intro s hs hs2 j hj hji
        by_cases e : j = i
        · subst e; rw [← hs]; exact hs2
        · exact HJ.out j hj (by omega))
      obtain ⟨s, hs⟩ : ∃ s, s = ws[i] := ⟨_, rfl⟩
      rw [← hs] at hcell HT2 HS HLG
      have HJ3 := Lib.hid (HJ2.out s hs)
      clear hs HJ2 hiw
      by_cases hs : s.size ≤ 255
      · have HTL := Lib.hid (textB_some s hs)
        have hts : 0 < (textB s).length := by rw [HTL.out]; omega
        have HTP := Lib.hid hts
        obtain ⟨M, hM⟩ : ∃ M, M = s.size + 1 := ⟨_, rfl⟩
        have HM := Lib.hid hM
        have HMP := Lib.hid (show ((M : Int) == 0) = false by rw [beq_eq_false_iff_ne]; omega)
        have hmp := HMP.out
        have hmp2 : 0 < M := by omega
        rw [← hM] at HTL
        have HSS := Lib.hid hs
        clear hts hM hs
        go_wp2_with fail
        refine (text_ok s _ HS.out).mono ?_
        rintro e w2 ⟨A3, c3, rfl, ho, hb⟩
        rw [HTL.out]
        have HO3 := Lib.hid ho
        have HB3 := Lib.hid hb
        have HA3 := Lib.hid (show A3 = none → M = 0 ∧ c3 = 0 by
          intro h
          obtain ⟨g, e, _⟩ := ho.form (by intro h0; have := HTP.out; rw [h0] at this; simp at this)
          rw [h] at e; cases e)
        have HOO := Lib.hid (show OB w2 w.heap.size 5 A2 c2 (textsB (ws.take i)) from by
          refine ⟨HO.out.1, ?_⟩
          rcases HO.out.2 with hn | ⟨g, cap, cur, hv, hg, hh, r⟩
          · exact .inl hn
          · refine .inr ⟨g, cap, cur, hv, hg, ?_, r⟩
            rw [hb.block g (lt_of_block hh)]
            exact hh)
        clear ho hb
        go_wp2_with (at_builtin; refine wp_app_any rfl (.tmp 21) (.tmp 22) 22 5 rfl Tryd.underlying22 bytesInfo w.heap.size _ _ _ _ rfl HT.out HOO.out (textB s) A3 M _ _ rfl HTL.out HA3.out HO3.out.rb (by have h1 := HLB.out; have h2 := HTX.out; rw [HT2.out, List.length_append] at h1; omega) (by have h1 := HB.out.size; have h2 := HB3.out.size; omega) ?_; intro A4 c4 w4 ho4 hg4 hb4)
        go_roundw
        case rel =>
          refine ⟨i + 1, A4, c4, _, by omega, by go_num, rfl, Lib.hid (by rw [HT2.out]; simp), Lib.hid (HJ3.out HSS.out), Lib.hid (by rw [HT2.out]; exact ho4), Lib.hid ?_, Lib.hid ((HB.out.trans (HB3.out.mono HB.out.size)).trans hb4)⟩
          intro h
          obtain ⟨g, e, _⟩ := ho4.form (by intro h0; have h1 := congrArg List.length h0; rw [List.length_append, HTL.out] at h1; simp at h1; omega)
          rw [h] at e; cases e
        case measure => simp [intOf]; omega
      · have HTL := Lib.hid (textB_none s (by omega))
        have HP := Lib.hid (HLG.out (by omega))
        clear hs HLG HJ3
        go_wp2_with fail
        refine (text_ok s _ HS.out).mono ?_
        rintro e w2 ⟨A3, c3, rfl, ho, hb⟩
        rw [HTL.out]
        have HB3 := Lib.hid hb
        clear hb ho
        go_wp2_with fail
        go_ret
        exact ⟨by rw [HP.out]; rfl, HB.out.trans (HB3.out.mono HB.out.size)⟩
    · have hi3 : i = n' := by omega
      have hi2 : (n' : Int) ≤ (i : Int) := by omega
      have HI3 := Lib.hid (show ws.take i = ws by rw [List.take_of_length_le]; rw [HL'.out]; omega)
      have HPS := Lib.hid (proofB_short key ws (fun j hj => HJ.out j hj (by rw [HL'.out] at hj; omega)))
      rw [HI3.out] at HT HO
      have HLL := Lib.hid (show L ≤ 549755813888 by rw [← HT.out]; exact HTX.out)
      clear hi3
      have HZE := Lib.hid (show (Tryd.prog.info? 26).map (·.size) = some (bcells (macB key (textsB ws))).size by rw [bcells_size, macB_len]; kernel_rfl)
      have HZE2 := Lib.hid (show (bcells (List.replicate 32 0)).size = (bcells (macB key (textsB ws))).size by rw [bcells_size, bcells_size, macB_len, List.length_replicate])
      go_wp2_with fail
      refine (mac_ok A n c key A2 L c2 (textsB ws) _ HL.out HCP.out HMX.out HN.out ((HR.out.below HB.out (Nat.le_refl _)).more HB.out.size) HT.out HLL.out HO.out.rb HNL.out (HG.out.below HB.out HG.out.size)).mono ?_
      rintro e w2 ⟨rfl, hb2⟩
      have HB2 := Lib.hid (HB.out.trans (hb2.mono HB.out.size))
      clear hb2
      go_upto_region 11 with (refine wpList_store_row rfl 26 (.tmp 9) (.tmp 27) rfl w2.heap.size _ rfl rfl 26 _ (zeros_new w2) HZE.out HZE2.out (bcells_one _) ?_)
      refine gen_world (fun u => Bk u w2.heap.size 26 (bcells (macB key (textsB ws))) ∧ Below w.heap.size w u) ⟨(zeros_new w2).setRow _, Below.setRow (HB2.out.alloc HB2.out.size _) _ HB2.out.size _⟩ (fun w3 hw3 => ?_)
      have HK3 := Lib.hid hw3.1
      have HB3 := Lib.hid hw3.2
      clear hw3
      go_wp2_with fail
      refine (hex_ok (some ⟨w2.heap.size, 0, none⟩) 32 32 (macB key (textsB ws)) _ (macB_len _ _) (by omega) (Rb.row HK3.out HK3.out.lt)).mono ?_
      rintro e w4 ⟨rfl, hb4⟩
      go_wp2_with fail
      go_ret
      exact ⟨by rw [HPS.out]; rfl, HB3.out.trans (hb4.mono HB3.out.size)⟩
end Go.Proofs.YtoekdiefbpnekaaDoor
