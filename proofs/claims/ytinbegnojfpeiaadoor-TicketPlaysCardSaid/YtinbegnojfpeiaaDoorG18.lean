/- RText, RHex, RProof, MHead: texts of this seat, one behind the other. -/
import Derived.Test.YtinbegnojfpeiaaDoorG5
import Derived.Test.YtinbegnojfpeiaaDoorG14
import Derived.Test.YtinbegnojfpeiaaDoorG2
import Derived.Test.YtinbegnojfpeiaaDoorG7
import Derived.Test.YtinbegnojfpeiaaDoorRMac
import Derived.Test.YtinbegnojfpeiaaDoorG9
import Derived.Lib.SlBytesConst
/- The document's own Text. -/
namespace Go.Proofs.YtinbegnojfpeiaaDoor
set_option linter.unusedVariables false
set_option maxRecDepth 100000
set_option linter.unusedSimpArgs false
open Go.RowKit

theorem OB.one {w : World} {B : Nat} {t : TypeId} {c : UInt8} {v : Int} (hB : B ≤ w.heap.size) (hv : v = (c.toNat : Int)) : OB (w.alloc (.cells #[.int .u8 v] t)) B t (some ⟨w.heap.size, 0, none⟩) 1 [c] := by
  subst hv
  exact OB.new (l := [c]) t hB (by simp)

set_option maxHeartbeats 400000 in
theorem rtext_ok (s : ByteArray) (w : World) (hs : s.size ≤ 140737488355328) :
    Calls Tryd.prog 29 #[.string s] w fun e w' => ∃ A c, e = .returned (.slice A (textB s).length c) ∧ OB w' w.heap.size 5 A c (textB s) ∧ Below w.heap.size w w' := by
  by_cases hle : s.size ≤ 255
  · obtain ⟨l, hl⟩ : ∃ l, l = textB s := ⟨_, rfl⟩
    rw [← hl]
    have HL := Lib.hid (show l = [UInt8.ofNat s.size] ++ s.data.toList by rw [hl, textB, if_pos hle]; rfl)
    clear hl
    have HB := Lib.hid (fun (u : Int) (hu : u = (s.size : Int)) => OB.one (w := w) (B := w.heap.size) (t := 5) (c := UInt8.ofNat s.size) (v := u) (Nat.le_refl _) (by rw [hu, UInt8.toNat_ofNat', Nat.mod_eq_of_lt (by omega)]))
    go_enter Tryd.func29, Tryd.ntmps29
    go_wp2_with (at_builtin; refine wp_app_str rfl (.tmp 9) (.tmp 10) 50 9 5 rfl Tryd.underlying50 Tryd.underlying9 byInfo w.heap.size [UInt8.ofNat s.size] _ _ _ rfl rfl (HB.out _ (by omega)) s rfl (by simp only [List.length_cons, List.length_nil]; omega) (by simp only [World.size_alloc]; omega) ?_; intro A3 c3 w3 ho3 hg3 hb3)
    have hll : l.length = s.size + 1 := by rw [HL.out, List.length_append]; show 1 + s.size = s.size + 1; omega
    go_ret
    exact ⟨A3, c3, by rw [hll]; rfl, by rw [HL.out]; exact ho3, ((Below.refl _ _).alloc (Nat.le_refl _) _).trans hb3⟩
  · have hl : textB s = [] := by rw [textB, if_neg hle]
    rw [hl]
    go_enter Tryd.func29, Tryd.ntmps29
    go_wp2
    go_ret
    exact ⟨none, 0, rfl, OB.nil _ _ _, Below.refl _ _⟩

end Go.Proofs.YtinbegnojfpeiaaDoor

/- The document's own digits of bytes. (Written by gen_rhex.py.) -/
namespace Go.Proofs.YtinbegnojfpeiaaDoor
set_option linter.unusedVariables false
set_option maxRecDepth 100000
set_option linter.unusedSimpArgs false
open Go.RowKit

set_option maxRecDepth 100000 in
set_option maxHeartbeats 2000000 in
theorem rhex_ok (A : Option Addr) (n c : Nat) (l : List UInt8) (w : World) (hl : l.length = n) (hn : n ≤ 1099511627776) (hR : Rb w w.heap.size A l) :
    Calls Tryd.prog 31 #[.slice A n c] w fun e w' => e = .returned (.string ⟨(hexB l).toArray⟩) ∧ Below w.heap.size w w' := by
  have HL := Lib.hid hl
  have HR := Lib.hid hR
  clear hl hR
  go_enter Tryd.func31, Tryd.ntmps31
  go_wp2_with fail
  go_loopw [5, 4] (fun v5 v4 wr => ∃ (i : Nat) (A2 : Option Addr) (c2 L : Nat), i ≤ n ∧ v5 = .int .i64 i ∧ v4 = .slice A2 L c2 ∧ Hid ((hexB (l.take i)).length = L) ∧ Hid (OB wr w.heap.size 5 A2 c2 (hexB (l.take i))) ∧ Hid (Below w.heap.size w wr)) (fun v5 _ _ => n - (intOf v5).toNat)
  case atStart => exact ⟨0, none, 0, 0, by omega, rfl, rfl, Lib.hid rfl, Lib.hid (OB.nil _ _ _), Lib.hid (by go_grown)⟩
  case round =>
    obtain ⟨i, A2, c2, L, hi, rfl, rfl, HT, HO, HB⟩ := hrel
    by_cases hi1 : i < n
    · have hi2 : (i : Int) < (n : Int) := by omega
      have hil : i < l.length := by rw [HL.out]; exact hi1
      obtain ⟨b, o, rfl, hb, hc⟩ : ∃ b o, A = some ⟨b, o, none⟩ ∧ b < w.heap.size ∧ w.cell? ⟨b, o + i, none⟩ = some (.int .u8 ((l[i]).toNat : Int)) := by
        rcases HR.out with h | ⟨b, o, e, hb, hc⟩
        · subst h; simp at hil
        · exact ⟨b, o, e, hb, hc i hil⟩
      have HT2 := Lib.hid (hexB_take l i hil)
      have hlt := (l[i]).toNat_lt
      obtain ⟨x, hx⟩ : ∃ x, x = (l[i]).toNat := ⟨_, rfl⟩
      rw [← hx] at hc HT2 hlt
      clear hx
      obtain ⟨q, hq⟩ : ∃ q, q = x / 16 := ⟨_, rfl⟩
      obtain ⟨r, hr⟩ : ∃ r, r = x % 16 := ⟨_, rfl⟩
      have e1 : (x : Int) / 16 = (q : Int) := by omega
      have e2 : (x : Int) % 16 = (r : Int) := by omega
      have e2' : (x : Int).tmod 16 = (r : Int) := by rw [Int.tmod_eq_emod_of_nonneg (by omega)]; exact e2
      have e1' : (x : Int).tdiv 16 = (q : Int) := by rw [Int.tdiv_eq_ediv_of_nonneg (by omega)]; exact e1
      have e3 : (q : Int) % 256 = (q : Int) := by omega
      have e4 : (r : Int) % 256 = (r : Int) := by omega
      have e5 : IntKind.u8.wrap (q : Int) = (q : Int) := by rw [IntKind.wrap_u8]; omega
      have e6 : IntKind.u8.wrap (r : Int) = (r : Int) := by rw [IntKind.wrap_u8]; omega
      have HQ := Lib.hid (fun (u : World) => show (Instr.index 9 (.string ⟨#[48, 49, 50, 51, 52, 53, 54, 55, 56, 57, 97, 98, 99, 100, 101, 102]⟩) (.int .u8 (q : Int))).run Tryd.prog u = .ok (.int .u8 ((dig q).toNat : Int)) u from idx_dig q (by omega) .u8 u)
      have HRR := Lib.hid (fun (u : World) => show (Instr.index 9 (.string ⟨#[48, 49, 50, 51, 52, 53, 54, 55, 56, 57, 97, 98, 99, 100, 101, 102]⟩) (.int .u8 (r : Int))).run Tryd.prog u = .ok (.int .u8 ((dig r).toNat : Int)) u from idx_dig r (by omega) .u8 u)
      rw [← hq, ← hr] at HT2
      have HCL := Lib.hid (show ∀ u, Below w.heap.size w u → u.cell? ⟨b, o + i, none⟩ = some (.int .u8 (x : Int)) from fun u hu => (hu.cell (p := ⟨b, o + i, none⟩) hb).trans hc)
      have HLEN := Lib.hid (show (hexB (l.take i)).length + 2 ≤ 140737488355328 by rw [hexB_len, List.length_take]; omega)
      clear hq hr hlt hil
      go_wp2_with fail
      try simp only [List.cons_append, List.nil_append]
      refine wp_region_held_drew (S := fun u => Below w.heap.size w u) (by kernel_rfl) (HB.out.drew) (fun hHeld => ?_)
      refine take_at (some 12) (i := 0) (v := ?_) rfl rfl (by kernel_rfl) (by kernel_rfl) (by kernel_rfl) (fun _ _ _ h => h) (Or.inl ⟨by kernel_rfl, ?_⟩) hHeld ?_
      rotate_left
      · intro wz hSw; go_simp; try (with_reducible rfl)
      try simp only [Act.put, List.setIfInBounds_toArray, List.set_cons_zero, List.set_cons_succ, List.getElem_toArray, List.getElem_cons_succ, List.getElem_cons_zero]
      refine take_at (some 13) (i := 1) (v := ?_) rfl rfl (by kernel_rfl) (by kernel_rfl) (by kernel_rfl) (fun _ _ _ h => h) (Or.inl ⟨by kernel_rfl, ?_⟩) hHeld ?_
      rotate_left
      · intro wz hSw; go_simp; try (with_reducible rfl)
      try simp only [Act.put, List.setIfInBounds_toArray, List.set_cons_zero, List.set_cons_succ, List.getElem_toArray, List.getElem_cons_succ, List.getElem_cons_zero]
      refine take_at (some 14) (i := 2) (v := ?_) rfl rfl (by kernel_rfl) (by kernel_rfl) (by kernel_rfl) (fun _ _ _ h => h) (Or.inl ⟨by kernel_rfl, ?_⟩) hHeld ?_
      rotate_left
      · intro wz hSw; go_simp; try (with_reducible rfl)
      try simp only [Act.put, List.setIfInBounds_toArray, List.set_cons_zero, List.set_cons_succ, List.getElem_toArray, List.getElem_cons_succ, List.getElem_cons_zero]
      refine take_at (some 15) (i := 3) (v := ?_) rfl rfl (by kernel_rfl) (by kernel_rfl) (by kernel_rfl) (fun _ _ _ h => h) (Or.inl ⟨by kernel_rfl, ?_⟩) hHeld ?_
      rotate_left
      · intro wz hSw; go_simp; try (with_reducible rfl)
      try simp only [Act.put, List.setIfInBounds_toArray, List.set_cons_zero, List.set_cons_succ, List.getElem_toArray, List.getElem_cons_succ, List.getElem_cons_zero]
      refine take_at (some 16) (i := 4) (v := ?_) rfl rfl (by kernel_rfl) (by kernel_rfl) (by kernel_rfl) (fun _ _ _ h => h) (Or.inl ⟨by kernel_rfl, ?_⟩) hHeld ?_
      rotate_left
      · intro wz hSw; go_simp; try (with_reducible rfl)
      try simp only [Act.put, List.setIfInBounds_toArray, List.set_cons_zero, List.set_cons_succ, List.getElem_toArray, List.getElem_cons_succ, List.getElem_cons_zero]
      refine take_at (some 17) (i := 5) (v := ?_) rfl rfl (by kernel_rfl) (by kernel_rfl) (by kernel_rfl) (fun _ _ _ h => h) (Or.inl ⟨by kernel_rfl, ?_⟩) hHeld ?_
      rotate_left
      · intro wz hSw; have hcv := HCL.out wz hSw; go_simp; try (with_reducible rfl)
      try simp only [Act.put, List.setIfInBounds_toArray, List.set_cons_zero, List.set_cons_succ, List.getElem_toArray, List.getElem_cons_succ, List.getElem_cons_zero]
      refine take_at (some 18) (i := 6) (v := ?_) rfl rfl (by kernel_rfl) (by kernel_rfl) (by kernel_rfl) (fun _ _ _ h => h) (Or.inl ⟨by kernel_rfl, ?_⟩) hHeld ?_
      rotate_left
      · intro wz hSw; go_simp; try (with_reducible rfl)
      try simp only [Act.put, List.setIfInBounds_toArray, List.set_cons_zero, List.set_cons_succ, List.getElem_toArray, List.getElem_cons_succ, List.getElem_cons_zero]
      refine take_at (some 19) (i := 7) (v := ?_) rfl rfl (by kernel_rfl) (by kernel_rfl) (by kernel_rfl) (fun _ _ _ h => h) (Or.inl ⟨by kernel_rfl, ?_⟩) hHeld ?_
      rotate_left
      · intro wz hSw; have hix := HQ.out wz; go_simp; try (with_reducible rfl)
      try simp only [Act.put, List.setIfInBounds_toArray, List.set_cons_zero, List.set_cons_succ, List.getElem_toArray, List.getElem_cons_succ, List.getElem_cons_zero]
      refine take_at (some 20) (i := 8) (v := ?_) rfl rfl (by kernel_rfl) (by kernel_rfl) (by kernel_rfl) (fun _ _ _ h => h) (Or.inl ⟨by kernel_rfl, ?_⟩) hHeld ?_
      rotate_left
      · intro wz hSw; go_simp; try (with_reducible rfl)
      try simp only [Act.put, List.setIfInBounds_toArray, List.set_cons_zero, List.set_cons_succ, List.getElem_toArray, List.getElem_cons_succ, List.getElem_cons_zero]
      refine take_at (some 21) (i := 9) (v := ?_) rfl rfl (by kernel_rfl) (by kernel_rfl) (by kernel_rfl) (fun _ _ _ h => h) (Or.inl ⟨by kernel_rfl, ?_⟩) hHeld ?_
      rotate_left
      · intro wz hSw; go_simp; try (with_reducible rfl)
      try simp only [Act.put, List.setIfInBounds_toArray, List.set_cons_zero, List.set_cons_succ, List.getElem_toArray, List.getElem_cons_succ, List.getElem_cons_zero]
      refine take_at (some 22) (i := 10) (v := ?_) rfl rfl (by kernel_rfl) (by kernel_rfl) (by kernel_rfl) (fun _ _ _ h => h) (Or.inl ⟨by kernel_rfl, ?_⟩) hHeld ?_
      rotate_left
      · intro wz hSw; go_simp; try (with_reducible rfl)
      try simp only [Act.put, List.setIfInBounds_toArray, List.set_cons_zero, List.set_cons_succ, List.getElem_toArray, List.getElem_cons_succ, List.getElem_cons_zero]
      refine take_at (some 23) (i := 11) (v := ?_) rfl rfl (by kernel_rfl) (by kernel_rfl) (by kernel_rfl) (fun _ _ _ h => h) (Or.inl ⟨by kernel_rfl, ?_⟩) hHeld ?_
      rotate_left
      · intro wz hSw; go_simp; try (with_reducible rfl)
      try simp only [Act.put, List.setIfInBounds_toArray, List.set_cons_zero, List.set_cons_succ, List.getElem_toArray, List.getElem_cons_succ, List.getElem_cons_zero]
      refine take_at (some 24) (i := 12) (v := ?_) rfl rfl (by kernel_rfl) (by kernel_rfl) (by kernel_rfl) (fun _ _ _ h => h) (Or.inl ⟨by kernel_rfl, ?_⟩) hHeld ?_
      rotate_left
      · intro wz hSw; have hcv := HCL.out wz hSw; go_simp; try (with_reducible rfl)
      try simp only [Act.put, List.setIfInBounds_toArray, List.set_cons_zero, List.set_cons_succ, List.getElem_toArray, List.getElem_cons_succ, List.getElem_cons_zero]
      refine take_at (some 25) (i := 13) (v := ?_) rfl rfl (by kernel_rfl) (by kernel_rfl) (by kernel_rfl) (fun _ _ _ h => h) (Or.inl ⟨by kernel_rfl, ?_⟩) hHeld ?_
      rotate_left
      · intro wz hSw; go_simp; try (with_reducible rfl)
      try simp only [Act.put, List.setIfInBounds_toArray, List.set_cons_zero, List.set_cons_succ, List.getElem_toArray, List.getElem_cons_succ, List.getElem_cons_zero]
      refine take_at (some 26) (i := 14) (v := ?_) rfl rfl (by kernel_rfl) (by kernel_rfl) (by kernel_rfl) (fun _ _ _ h => h) (Or.inl ⟨by kernel_rfl, ?_⟩) hHeld ?_
      rotate_left
      · intro wz hSw; have hix := HRR.out wz; go_simp; try (with_reducible rfl)
      try simp only [Act.put, List.setIfInBounds_toArray, List.set_cons_zero, List.set_cons_succ, List.getElem_toArray, List.getElem_cons_succ, List.getElem_cons_zero]
      refine wpAnyH_ready (rs := [15]) (by kernel_rfl) (by simp) (AllReadyH.cons rfl (fun K hK => ?_) AllReadyH.nil)
      rw [if_pos (by kernel_rfl)]
      go_simp
      refine hK.out _ _ (HB.out.drew.alloc HB.out.size _) (fun hHeld => ?_)
      try simp only [Act.put, List.setIfInBounds_toArray, List.set_cons_zero, List.set_cons_succ, List.getElem_toArray, List.getElem_cons_succ, List.getElem_cons_zero]
      refine wpAnyH_ready (rs := [16]) (by kernel_rfl) (by simp) (AllReadyH.cons rfl (fun K hK => ?_) AllReadyH.nil)
      rw [if_pos (by kernel_rfl)]
      refine op_app (.tmp 12) (.tmp 27) 50 5 rfl Tryd.underlying50 bytesInfo w.heap.size (hexB (l.take i)) A2 L c2 rfl HT.out (HO.out.drew.alloc _) [dig q, dig r] _ 2 _ _ rfl rfl Rb.two (by have := HLEN.out; simpa using this) hHeld.size ?_
      intro A3 c3 w4 ho3 hg3 hb3
      refine hK.out _ _ (hHeld.trans hb3) (fun hHeld => ?_)
      try simp only [Act.put, List.setIfInBounds_toArray, List.set_cons_zero, List.set_cons_succ, List.getElem_toArray, List.getElem_cons_succ, List.getElem_cons_zero]
      refine take_at (some 4) (i := 17) (v := ?_) rfl rfl (by kernel_rfl) (by kernel_rfl) (by kernel_rfl) (fun _ _ _ h => h) (Or.inl ⟨by kernel_rfl, ?_⟩) hHeld ?_
      rotate_left
      · intro wz hSw; go_simp; try (with_reducible rfl)
      try simp only [Act.put, List.setIfInBounds_toArray, List.set_cons_zero, List.set_cons_succ, List.getElem_toArray, List.getElem_cons_succ, List.getElem_cons_zero]
      refine wpAnyH_done (by kernel_rfl) ?_ _
      go_wp2_with fail
      go_roundw
      case rel => exact ⟨i + 1, A3, c3, _, by omega, by go_num, rfl, Lib.hid (by rw [HT2.out, List.append_assoc]; simp), Lib.hid (by rw [HT2.out, List.append_assoc]; exact ho3), Lib.hid hHeld⟩
      case measure => simp [intOf]; omega
    · have hi2 : (n : Int) ≤ (i : Int) := by omega
      have HI := Lib.hid (show l.take i = l by rw [List.take_of_length_le]; rw [HL.out]; omega)
      rw [HI.out] at HT HO
      have hst := str_of (P := Tryd.prog) HO.out.rb 50 5 9 Tryd.underlying50 Tryd.underlying5 Tryd.underlying9 L c2 HT.out
      go_wp2_with fail
      go_ret
      exact ⟨rfl, HB.out⟩
end Go.Proofs.YtinbegnojfpeiaaDoor

/- The document's own Proof. (Out of Proof's own text, its slots turned.) -/
namespace Go.Proofs.YtinbegnojfpeiaaDoor
set_option linter.unusedVariables false
set_option maxRecDepth 100000
set_option linter.unusedSimpArgs false
open Go.RowKit

set_option maxRecDepth 100000 in
set_option maxHeartbeats 4000000 in
theorem rproof_ok (A : Option Addr) (n c : Nat) (key : List UInt8) (A' : Option Addr) (n' c' : Nat) (ws : List ByteArray) (w : World) (hl : key.length = n) (hc : n ≤ c) (hmax : c ≤ 9223372036854775807) (hn : n ≤ 1099511627776) (hR : Rb w w.heap.size A key) (hnk : A = none → n = 0 ∧ c = 0)
    (hl' : ws.length = n') (hn' : n' ≤ 1099511627776) (hR' : Rs w w.heap.size A' ws) (hsm : ∀ x ∈ ws, x.size ≤ 140737488355328) (htx : (textsB ws).length ≤ 549755813888) :
    Calls Tryd.prog 21 #[.slice A n c, .slice A' n' c'] w fun e w' => e = .returned (.string ⟨(proofB key ws).toArray⟩) ∧ Below w.heap.size w w' := by
  have HL := Lib.hid hl
  have HCP := Lib.hid hc
  have HMX := Lib.hid hmax
  have HN := Lib.hid hn
  have HR := Lib.hid hR
  have HL' := Lib.hid hl'
  have HR' := Lib.hid hR'
  have HSM := Lib.hid hsm
  have HTX := Lib.hid htx
  have HNK := Lib.hid hnk
  clear hl hc hmax hn hR hl' hR' hsm htx hnk
  go_enter Tryd.func21, Tryd.ntmps21
  go_wp2_with fail
  go_loopw [6, 5] (fun v12 v5 wr => ∃ (i : Nat) (A2 : Option Addr) (c2 L : Nat), i ≤ n' ∧ v12 = .int .i64 i ∧ v5 = .slice A2 L c2 ∧ Hid ((textsB (ws.take i)).length = L) ∧ Hid (∀ j, (hj : j < ws.length) → j < i → ws[j].size ≤ 255) ∧ Hid (OB wr w.heap.size 5 A2 c2 (textsB (ws.take i))) ∧ Hid (A2 = none → L = 0 ∧ c2 = 0) ∧ Hid (Below w.heap.size w wr)) (fun v12 _ _ => n' - (intOf v12).toNat)
  case atStart => exact ⟨0, none, 0, 0, by omega, rfl, rfl, Lib.hid rfl, Lib.hid (fun j _ h => by omega), Lib.hid (OB.nil _ _ _), Lib.hid (fun _ => ⟨rfl, rfl⟩), Lib.hid (by go_grown)⟩
  case round =>
    obtain ⟨i, A2, c2, L, hi, rfl, rfl, HT, HJ, HO, HNL, HB⟩ := hrel
    by_cases hi1 : i < n'
    · have hi2 : (i : Int) < (n' : Int) := by omega
      have hiw : i < ws.length := by rw [HL'.out]; exact hi1
      obtain ⟨b, o, rfl, hcell⟩ : ∃ b o, A' = some ⟨b, o, none⟩ ∧ wr.cell? ⟨b, o + i, none⟩ = some (.string ws[i]) := by
        rcases HR'.out with h | ⟨b, o, e, hb, hc⟩
        · subst h; simp at hiw
        · exact ⟨b, o, e, (HB.out.cell (p := ⟨b, o + i, none⟩) hb).trans (hc i hiw)⟩
      have HT2 := Lib.hid (textsB_take ws i hiw)
      have HS := Lib.hid (HSM.out ws[i] (List.getElem_mem hiw))
      have HLB := Lib.hid (textsB_part ws (i + 1))
      have HLG := Lib.hid (fun h => proofB_long key ws i hiw h)
      have HJ2 := Lib.hid (show ∀ s : ByteArray, s = ws[i] → s.size ≤ 255 → ∀ j, (hj : j < ws.length) → j < i + 1 → ws[j].size ≤ 255 by
        intro s hs hs2 j hj hji
        by_cases e : j = i
        · subst e; rw [← hs]; exact hs2
        · exact HJ.out j hj (by omega))
      obtain ⟨s, hs⟩ : ∃ s, s = ws[i] := ⟨_, rfl⟩
      rw [← hs] at hcell HT2 HS HLG
      have HJ3 := Lib.hid (HJ2.out s hs)
      clear hs HJ2 hiw
      by_cases hs : s.size ≤ 255
      · have HTL := Lib.hid (textB_some s hs)
        have hts : 0 < (textB s).length := by rw [HTL.out]; omega
        have HTP := Lib.hid hts
        obtain ⟨M, hM⟩ : ∃ M, M = s.size + 1 := ⟨_, rfl⟩
        have HM := Lib.hid hM
        have HMP := Lib.hid (show ((M : Int) == 0) = false by rw [beq_eq_false_iff_ne]; omega)
        have hmp := HMP.out
        have hmp2 : 0 < M := by omega
        rw [← hM] at HTL
        have HSS := Lib.hid hs
        have h3 : (s.size : Int) ≤ 255 := by omega
        clear hts hM hs
        go_wp2_with fail
        refine (rtext_ok s _ HS.out).mono ?_
        rintro e w2 ⟨A3, c3, rfl, ho, hb⟩
        rw [HTL.out]
        have HO3 := Lib.hid ho
        have HB3 := Lib.hid hb
        have HA3 := Lib.hid (show A3 = none → M = 0 ∧ c3 = 0 by
          intro h
          obtain ⟨g, e, _⟩ := ho.form (by intro h0; have := HTP.out; rw [h0] at this; simp at this)
          rw [h] at e; cases e)
        have HOO := Lib.hid (show OB w2 w.heap.size 5 A2 c2 (textsB (ws.take i)) from by
          refine ⟨HO.out.1, ?_⟩
          rcases HO.out.2 with hn | ⟨g, cap, cur, hv, hg, hh, r⟩
          · exact .inl hn
          · refine .inr ⟨g, cap, cur, hv, hg, ?_, r⟩
            rw [hb.block g (lt_of_block hh)]
            exact hh)
        clear ho hb
        go_wp2_with (at_builtin; refine wp_app_any rfl (.tmp 20) (.tmp 25) 50 5 rfl Tryd.underlying50 bytesInfo w.heap.size _ _ _ _ rfl HT.out HOO.out (textB s) A3 M _ _ rfl HTL.out HA3.out HO3.out.rb (by have h1 := HLB.out; have h2 := HTX.out; rw [HT2.out, List.length_append] at h1; omega) (by have h1 := HB.out.size; have h2 := HB3.out.size; omega) ?_; intro A4 c4 w4 ho4 hg4 hb4)
        go_roundw
        case rel =>
          refine ⟨i + 1, A4, c4, _, by omega, by go_num, rfl, Lib.hid (by rw [HT2.out]; simp), Lib.hid (HJ3.out HSS.out), Lib.hid (by rw [HT2.out]; exact ho4), Lib.hid ?_, Lib.hid ((HB.out.trans (HB3.out.mono HB.out.size)).trans hb4)⟩
          intro h
          obtain ⟨g, e, _⟩ := ho4.form (by intro h0; have h1 := congrArg List.length h0; rw [List.length_append, HTL.out] at h1; simp at h1; omega)
          rw [h] at e; cases e
        case measure => simp [intOf]; omega
      · have HP := Lib.hid (HLG.out (by omega))
        have h3 : (255 : Int) < (s.size : Int) := by omega
        clear hs HLG HJ3
        go_wp2_with fail
        go_ret
        exact ⟨by rw [HP.out]; rfl, HB.out⟩
    · have hi3 : i = n' := by omega
      have hi2 : (n' : Int) ≤ (i : Int) := by omega
      have HI3 := Lib.hid (show ws.take i = ws by rw [List.take_of_length_le]; rw [HL'.out]; omega)
      have HPS := Lib.hid (proofB_short key ws (fun j hj => HJ.out j hj (by rw [HL'.out] at hj; omega)))
      rw [HI3.out] at HT HO
      have HLL := Lib.hid (show L ≤ 549755813888 by rw [← HT.out]; exact HTX.out)
      clear hi3
      have HZE := Lib.hid (show (Tryd.prog.info? 68).map (·.size) = some (bcells (macB key (textsB ws))).size by rw [bcells_size, macB_len]; kernel_rfl)
      have HZE2 := Lib.hid (show (bcells (List.replicate 32 0)).size = (bcells (macB key (textsB ws))).size by rw [bcells_size, bcells_size, macB_len, List.length_replicate])
      go_wp2_with fail
      refine (rmac_ok A n c key A2 L c2 (textsB ws) _ HL.out HCP.out HN.out HNK.out ((HR.out.below HB.out (Nat.le_refl _)).more HB.out.size) HT.out HLL.out HNL.out HO.out.rb).mono ?_
      rintro e w2 ⟨rfl, hb2⟩
      have HB2 := Lib.hid (HB.out.trans (hb2.mono HB.out.size))
      clear hb2
      go_upto_region 9 with (refine wpList_store_row rfl 68 (.tmp 7) (.tmp 29) rfl w2.heap.size _ rfl rfl 68 _ (zeros_new w2) HZE.out HZE2.out (bcells_one _) ?_)
      refine gen_world (fun u => Bk u w2.heap.size 68 (bcells (macB key (textsB ws))) ∧ Below w.heap.size w u) ⟨(zeros_new w2).setRow _, Below.setRow (HB2.out.alloc HB2.out.size _) _ HB2.out.size _⟩ (fun w3 hw3 => ?_)
      have HK3 := Lib.hid hw3.1
      have HB3 := Lib.hid hw3.2
      clear hw3
      go_wp2_with fail
      refine (rhex_ok (some ⟨w2.heap.size, 0, none⟩) 32 32 (macB key (textsB ws)) _ (macB_len _ _) (by omega) (Rb.row HK3.out HK3.out.lt)).mono ?_
      rintro e w4 ⟨rfl, hb4⟩
      go_wp2_with fail
      go_ret
      exact ⟨by rw [HPS.out]; rfl, HB3.out.trans (hb4.mono HB3.out.size)⟩
end Go.Proofs.YtinbegnojfpeiaaDoor

/- head: the live question of mac's laws. (Written by gen_mhead.py.) -/
namespace Go.Proofs.YtinbegnojfpeiaaDoor
set_option linter.unusedVariables false
set_option maxRecDepth 100000
set_option linter.unusedSimpArgs false
open Go.RowKit

def keyL : List UInt8 := [107, 101, 121]
def foxL : List UInt8 := [84, 104, 101, 32, 113, 117, 105, 99, 107, 32, 98, 114, 111, 119, 110, 32, 102, 111, 120, 32, 106, 117, 109, 112, 115, 32, 111, 118, 101, 114, 32, 116, 104, 101, 32, 108, 97, 122, 121, 32, 100, 111, 103]
def fiveL : List UInt8 := [1, 97, 2, 98, 99]
def aS : ByteArray := ⟨#[97]⟩
def bcS : ByteArray := ⟨#[98, 99]⟩
theorem head_fox : (⟨(hexB (macB keyL foxL)).toArray⟩ : ByteArray) = ⟨#[102, 55, 98, 99, 56, 51, 102, 52, 51, 48, 53, 51, 56, 52, 50, 52, 98, 49, 51, 50, 57, 56, 101, 54, 97, 97, 54, 102, 98, 49, 52, 51, 101, 102, 52, 100, 53, 57, 97, 49, 52, 57, 52, 54, 49, 55, 53, 57, 57, 55, 52, 55, 57, 100, 98, 99, 50, 100, 49, 97, 51, 99, 100, 56]⟩ := by rw [show hexB (macB keyL foxL) = _ from macB_fox]
theorem head_proof : proofB keyL [aS, bcS] = hexB (macB keyL fiveL) := by
  rw [proofB_short keyL [aS, bcS] (by decide)]
  rfl
theorem head_size : (⟨(hexB (macB keyL fiveL)).toArray⟩ : ByteArray).size = 64 := by
  show (hexB (macB keyL fiveL)).toArray.size = 64
  rw [List.size_toArray, hexB_len, macB_len]
theorem two_const (w : World) (t : TypeId) (l l' : List UInt8) (fr fr' : Nat × Nat) :
    Rb ((w.alloc (.cells (bcells l) t fr)).alloc (.cells (bcells l') t fr')) ((w.alloc (.cells (bcells l) t fr)).alloc (.cells (bcells l') t fr')).heap.size (some ⟨w.heap.size, 0, none⟩) l ∧
    Rb ((w.alloc (.cells (bcells l) t fr)).alloc (.cells (bcells l') t fr')) ((w.alloc (.cells (bcells l) t fr)).alloc (.cells (bcells l') t fr')).heap.size (some ⟨w.heap.size + 1, 0, none⟩) l' ∧
    Below w.heap.size w ((w.alloc (.cells (bcells l) t fr)).alloc (.cells (bcells l') t fr')) := by
  have h1 : Rb (w.alloc (.cells (bcells l) t fr)) (w.heap.size + 1) (some ⟨w.heap.size, 0, none⟩) l := Rb.marked
  have h2 : Rb ((w.alloc (.cells (bcells l) t fr)).alloc (.cells (bcells l') t fr')) ((w.alloc (.cells (bcells l) t fr)).heap.size + 1) (some ⟨(w.alloc (.cells (bcells l) t fr)).heap.size, 0, none⟩) l' := Rb.marked
  have hz : (w.alloc (.cells (bcells l) t fr)).heap.size = w.heap.size + 1 := by simp
  have hb : Below (w.heap.size + 1) (w.alloc (.cells (bcells l) t fr)) ((w.alloc (.cells (bcells l) t fr)).alloc (.cells (bcells l') t fr')) := (Below.refl _ _).alloc (by rw [hz]; exact Nat.le_refl _) _
  rw [hz] at h2
  have hz2 : ((w.alloc (.cells (bcells l) t fr)).alloc (.cells (bcells l') t fr')).heap.size = w.heap.size + 2 := by simp
  rw [hz2]
  exact ⟨(h1.below hb (Nat.le_refl _)).more (by omega), h2.more (by omega), by go_grown⟩
theorem const_words (w : World) (t t' : TypeId) (l : List UInt8) (fr : Nat × Nat) (a b : ByteArray) :
    Rb ((w.alloc (.cells (bcells l) t fr)).alloc (.cells #[.string a, .string b] t')) ((w.alloc (.cells (bcells l) t fr)).alloc (.cells #[.string a, .string b] t')).heap.size (some ⟨w.heap.size, 0, none⟩) l ∧
    Rs ((w.alloc (.cells (bcells l) t fr)).alloc (.cells #[.string a, .string b] t')) ((w.alloc (.cells (bcells l) t fr)).alloc (.cells #[.string a, .string b] t')).heap.size (some ⟨w.heap.size + 1, 0, none⟩) [a, b] ∧
    Below w.heap.size w ((w.alloc (.cells (bcells l) t fr)).alloc (.cells #[.string a, .string b] t')) := by
  have h1 : Rb (w.alloc (.cells (bcells l) t fr)) (w.heap.size + 1) (some ⟨w.heap.size, 0, none⟩) l := Rb.marked
  have hz : (w.alloc (.cells (bcells l) t fr)).heap.size = w.heap.size + 1 := by simp
  have hb : Below (w.heap.size + 1) (w.alloc (.cells (bcells l) t fr)) ((w.alloc (.cells (bcells l) t fr)).alloc (.cells #[.string a, .string b] t')) := (Below.refl _ _).alloc (by rw [hz]; exact Nat.le_refl _) _
  have hz2 : ((w.alloc (.cells (bcells l) t fr)).alloc (.cells #[.string a, .string b] t')).heap.size = w.heap.size + 2 := by simp
  have hk : Bk ((w.alloc (.cells (bcells l) t fr)).alloc (.cells #[.string a, .string b] t')) (w.heap.size + 1) t' #[.string a, .string b] := by
    have := Bk.new (w.alloc (.cells (bcells l) t fr)) t' #[.string a, .string b]
    rwa [hz] at this
  rw [hz2]
  refine ⟨(h1.below hb (Nat.le_refl _)).more (by omega), .inr ⟨w.heap.size + 1, 0, rfl, by omega, fun i hi => ?_⟩, by go_grown⟩
  rw [hk.cell]
  match i, hi with
  | 0, _ => rfl
  | 1, _ => rfl

end Go.Proofs.YtinbegnojfpeiaaDoor
