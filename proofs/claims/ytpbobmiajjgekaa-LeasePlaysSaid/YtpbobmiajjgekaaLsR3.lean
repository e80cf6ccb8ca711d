/- The document's own book of leases: drop: its contract. -/
import Derived.Test.YtpbobmiajjgekaaG7
namespace Go.Proofs.Ytpbobmiajjgekaa
set_option linter.unusedVariables false
set_option maxRecDepth 100000
set_option linter.unusedSimpArgs false
open Go.RowKit

theorem drL_snoc (s : ByteArray) (l : List Ls) (x : Ls) : drL s (l ++ [x]) = if nmE x.name s = true then drL s l else drL s l ++ [x] := by
  unfold drL
  rw [List.filter_append]
  cases h : nmE x.name s with
  | true => simp [h]
  | false => simp [h]
theorem drL_len (s : ByteArray) (l : List Ls) : (drL s l).length ≤ l.length := List.length_filter_le _ _
/-- What drop and put leave. -/
def LrP (u : World) (bb B : Nat) (g most : Int) (b : Bo) (e : Ending) (u' : World) : Prop := e = .returned (.tuple #[]) ∧ Lr u' bb B g most b ∧ Ke [bb] u u'
set_option maxRecDepth 100000 in
set_option maxHeartbeats 4000000 in
theorem lrdrop_ok (u : World) (bb B : Nat) (g most : Int) (b : Bo) (s : ByteArray) (h : Lr u bb B g most b) (hl : b.l.length ≤ 1000000) :
    Calls Try.prog 42 #[.pointer (some ⟨bb, 0, none⟩), .string s] u (LrP u bb u.heap.size g most ⟨drL s b.l, b.nx⟩) := by
  obtain ⟨⟨A, c, h1, h2⟩, h3, h4⟩ := h
  have HR := Lib.hid (Ow.rw_ (f := lsc) (k := 6) (fun _ => rfl) h2)
  have HK := Lib.hid h1
  have HLT := Lib.hid (And.intro h3 h4)
  obtain ⟨l, nx⟩ := b
  dsimp only at HR HK hl ⊢
  obtain ⟨n, hn⟩ : ∃ n, l.length = n := ⟨_, rfl⟩
  have HN := Lib.hid hn
  rw [hn] at HK hl
  clear h1 h2 h3 h4 hn
  go_enter Try.func42, Try.ntmps42
  go_wp2
  go_loopw [4, 5] (fun v4 v5 wr => ∃ (i m : Nat) (A2 : Option Addr) (c2 : Nat), i ≤ n ∧ m ≤ i ∧ v4 = .slice A2 m c2 ∧ v5 = .int .i64 (i : Int) ∧ Hid ((drL s (l.take i)).length = m) ∧ Hid (OL13 wr u.heap.size A2 c2 (drL s (l.take i))) ∧ Hid (Below u.heap.size u wr)) (fun v4 v5 _ => n - (intOf v5).toNat)
  case atStart => exact ⟨0, 0, none, 0, by omega, by omega, rfl, rfl, Lib.hid (by simp [drL]), Lib.hid (by rw [List.take_zero]; exact Ow.nil _ _), Lib.hid (Below.refl _ _)⟩
  case round =>
    obtain ⟨i, m, A2, c2, hi, hm, rfl, rfl, HM, HO, HB⟩ := hrel
    have HKW := Lib.hid (HK.out.below HB.out HK.out.lt)
    have e0 : wr.cell? ⟨bb, 0, none⟩ = some (.slice A n c) := HKW.out.cell 0
    by_cases hi1 : i < n
    · have hi2 : (i : Int) < (n : Int) := by omega
      obtain ⟨bx, o, x, rfl, hx, hc⟩ := row6 HR.out i (by rw [HN.out]; exact hi1)
      obtain ⟨c0, c1, c2', c3, c4, c5⟩ := hc wr HB.out
      have HX := Lib.hid hx
      obtain ⟨q, hq⟩ : ∃ q, (x.name.toList == s.toList) = q := ⟨_, rfl⟩
      have hq2 : (x.name.toList != s.toList) = !q := by rw [bne, hq]
      have HQ := Lib.hid (show nmE x.name s = q from hq)
      have HT := Lib.hid (show drL s (l.take (i + 1)) = if q = true then drL s (l.take i) else drL s (l.take i) ++ [x] by
        rw [List.take_add_one, HX.out, show (some x).toList = [x] from rfl, drL_snoc, HQ.out])
      clear hc hx
      obtain ⟨xn, xt, xc, xe, xu, xh⟩ := x
      dsimp only at c0 c1 c2' c3 c4 c5 hq hq2
      cases q with
      | true =>
        go_wp2
        go_roundw
        case rel => exact ⟨i + 1, m, A2, c2, by omega, by omega, rfl, by go_num, Lib.hid (by rw [HT.out, if_pos rfl]; exact HM.out), Lib.hid (by rw [HT.out, if_pos rfl]; exact HO.out), HB⟩
        case measure => simp [intOf]; omega
      | false =>
        have HOA := Lib.hid (HO.out.on ((Below.refl wr.heap.size wr).alloc (Nat.le_refl _) (.cells #[.string xn, .string xt, .int .i64 xc, .int .i64 xe, .int .i64 xu, .bool xh] 32)))
        have HRX := Lib.hid (Rw.bk (f := lsc) (k := 6) (x := ⟨xn, xt, xc, xe, xu, xh⟩) (Bk.new wr 32 #[.string xn, .string xt, .int .i64 xc, .int .i64 xe, .int .i64 xu, .bool xh]))
        have HBA := Lib.hid (HB.out.alloc HB.out.size (.cells #[.string xn, .string xt, .int .i64 xc, .int .i64 xe, .int .i64 xu, .bool xh] 32))
        go_wp2_with (at_builtin; refine wp_rows0 roL rfl (.tmp 25) (.tmp 33) rfl m rfl HM.out HOA.out [⟨xn, xt, xc, xe, xu, xh⟩] (some ⟨wr.heap.size, 0, none⟩) 1 1 rfl rfl (fun h => by cases h) HRX.out (by omega) HBA.out.size (m + 1) rfl ?_; intro A9 c9 w9 ho9 hg9 hb9; have HO9 := Lib.hid ho9; have HB9 := Lib.hid (HBA.out.trans hb9); clear ho9 hg9 hb9)
        go_roundw
        case rel => exact ⟨i + 1, m + 1, A9, c9, by omega, by omega, by first | rfl | go_num, by go_num, Lib.hid (by rw [HT.out, if_neg (by simp), List.length_append, HM.out]; rfl), Lib.hid (by rw [HT.out, if_neg (by simp)]; exact HO9.out), HB9⟩
        case measure => simp [intOf]; omega
    · have hi2 : ¬ (i : Int) < (n : Int) := by omega
      have HTL := Lib.hid (show l.take i = l from List.take_of_length_le (by rw [HN.out]; omega))
      have f0 := HKW.out.frozen 0
      go_wp2
      go_end0
      have hset := HKW.out.set 0 (.slice A2 m c2)
      have hlt := HLT.out
      have hO := HO.out
      have hM := HM.out
      rw [HTL.out] at hO hM
      refine ⟨rfl, ⟨⟨A2, c2, ?_, (hO.set (p := ⟨bb, 0, none⟩) (by show bb < u.heap.size; omega) _)⟩, Nat.lt_of_lt_of_le hlt.1 hlt.2, ?_⟩, ?_⟩
      · rw [hM]
        simpa only [List.setIfInBounds_toArray, List.set_cons_zero] using hset
      · have := HB.out.size
        simp [World.setCell]; omega
      · exact (Ke.of HB.out).nil.set (p := ⟨bb, 0, none⟩) (List.mem_singleton.2 rfl) _
end Go.Proofs.Ytpbobmiajjgekaa
