/- The document's own book of tickets: Void, Redeem: their contracts. (Begun in round 14, in a seat of the document's own book alone.) -/
import Derived.Test.YtinbegnojfpeiaaDoorTcR
namespace Go.Proofs.YtinbegnojfpeiaaDoor
set_option linter.unusedVariables false
set_option maxRecDepth 100000
set_option linter.unusedSimpArgs false
open Go.RowKit

section
variable {W u u' : World} {H H' : List Nat} {db : Nat} {key : ByteArray} {b b' : Bt}
set_option maxRecDepth 100000 in
set_option maxHeartbeats 4000000 in
theorem t_void (h : Dt W u H db key b) (v : Int) (is : Bool) (b' : Bt) (hE : voiT b v = (is, b')) (hf : b.l.length ≤ 64) :
    Calls Tryd.prog 17 #[.pointer (some ⟨db, 0, none⟩), .int .i64 v] u fun e u' => ∃ H', e = .returned (.bool is) ∧ Dt W u' H' db key b' ∧ Sp u u' H H' := by
  obtain ⟨A, c, h1, h2, _⟩ := h.ex
  obtain ⟨n, hn⟩ : ∃ n, b.l.length = n := ⟨_, rfl⟩
  have HR := Lib.hid (Ow.rw_ (f := tkc) (k := 5) (fun _ => rfl) h2)
  have HN := Lib.hid hn
  have HZ := Lib.hid h
  have HE := Lib.hid hE
  have HD := Lib.hid (fun i (hi : i < n) => t_drop h i (by rw [hn]; exact hi) hf)
  rw [hn] at h1 hf
  have c2 : u.cell? ⟨db, 2, none⟩ = some (.slice A n c) := h1.cell 2
  clear h h1 h2 hn hE
  go_enter Tryd.func17, Tryd.ntmps17
  go_wp2
  go_loopw [5] (fun v5 wr => ∃ i : Nat, i ≤ n ∧ v5 = .int .i64 (i : Int) ∧ Hid (∀ y ∈ b.l.take i, visT v y = false) ∧ wr = u) (fun v5 _ => n - (intOf v5).toNat)
  case atStart => exact ⟨0, by omega, rfl, Lib.hid (fun y hy => by simp at hy), by first | rfl | trivial⟩
  case round =>
    obtain ⟨i, hi, rfl, H0, hwr⟩ := hrel
    subst hwr
    by_cases hi1 : i < n
    · have hi2 : (i : Int) < (n : Int) := by omega
      obtain ⟨bx, o, x, rfl, hx, hc⟩ := row5 HR.out i (by rw [HN.out]; exact hi1)
      obtain ⟨x0, x1, x2, x3, x4⟩ := hc _ (Below.refl _ _)
      have HX := Lib.hid hx
      obtain ⟨e, he⟩ : ∃ e, (x.p.vis == v) = e := ⟨_, rfl⟩
      have HV := Lib.hid (show visT v x = e from he)
      clear hc hx
      cases e with
      | true =>
        have HP := Lib.hid (show is = true ∧ b' = ⟨b.se, b.l.take i ++ b.l.drop (i + 1)⟩ from by
          obtain ⟨k1, k2⟩ := erase_at HX.out H0.out HV.out
          have he := HE.out
          unfold voiT at he
          rw [k1, List.any_eq_true.2 ⟨x, List.mem_of_getElem? HX.out, HV.out⟩] at he
          injection he with e1 e2
          exact ⟨e1.symm, e2.symm⟩)
        go_wp2_with (go_at_call 24; (with_reducible refine (HD.out i hi1).mono ?_); rintro e u4 ⟨H4, rfl, k1, k2⟩; have HZ4 := Lib.hid k1; have HS4 := Lib.hid k2; clear k1 k2)
        go_ret
        have z1 := HZ4.out
        rw [← HP.out.2] at z1
        first
          | exact ⟨H4, by rw [HP.out.1]; rfl, z1, HS4.out⟩
          | exact ⟨by rw [HP.out.1]; rfl, H4, z1, HS4.out⟩
      | false =>
        go_wp2
        go_roundw
        case rel =>
          refine ⟨i + 1, by omega, by go_num, Lib.hid (fun y hy => ?_), by first | rfl | trivial⟩
          rw [List.take_add_one, HX.out, List.mem_append] at hy
          rcases hy with hy | hy
          · exact H0.out y hy
          · simp at hy; rw [hy]; exact HV.out
        case measure => simp [intOf]; omega
    · have hi2 : ¬ (i : Int) < (n : Int) := by omega
      have HP := Lib.hid (show is = false ∧ b' = b from by
        have h0 : b.l.any (visT v) = false := by
          rw [List.any_eq_false]
          intro y hy
          rw [H0.out y (by rw [List.take_of_length_le (by rw [HN.out]; omega)]; exact hy)]
          simp
        have he := HE.out
        rw [voi_no h0] at he
        injection he with e1 e2
        exact ⟨e1.symm, e2.symm⟩)
      go_wp2
      go_ret
      have z1 := HZ.out
      rw [← HP.out.2] at z1
      first
        | exact ⟨H, by rw [HP.out.1]; rfl, z1, Sp.refl _ _⟩
        | exact ⟨by rw [HP.out.1]; rfl, H, z1, Sp.refl _ _⟩
theorem red_at {b : Bt} {s ten : ByteArray} {i : Nat} {x : Tk5} (h : b.l[i]? = some x) (h0 : ∀ y ∈ b.l.take i, texT s y = false) (hx : texT s x = true) :
    redT b s ten = if nmQ x.p.ten ten = true then (x.p, 0, ⟨b.se, b.l.take i ++ b.l.drop (i + 1)⟩) else (zeroPs, 131, b) := by
  obtain ⟨k1, k2⟩ := erase_at h h0 hx
  unfold redT
  rw [k2]
  dsimp only
  rw [k1]
/-- What Redeem leaves. -/
structure RedPost (W u : World) (H : List Nat) (db : Nat) (key : ByteArray) (R : Ps × Int × Bt) (e : Ending) (u' : World) : Prop where
  e : e = .returned (.tuple #[.agg (pcs R.1), .int .i64 R.2.1])
  z : ∃ H', Dt W u' H' db key R.2.2 ∧ Sp u u' H H'
end
end Go.Proofs.YtinbegnojfpeiaaDoor
