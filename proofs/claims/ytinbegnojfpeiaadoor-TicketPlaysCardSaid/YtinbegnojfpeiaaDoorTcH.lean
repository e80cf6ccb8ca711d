/- What ticket's laws share: head. -/
import Derived.Test.YtinbegnojfpeiaaDoorG17
import Derived.Test.YtinbegnojfpeiaaDoorG18
namespace Go.Proofs.YtinbegnojfpeiaaDoor
set_option linter.unusedVariables false
set_option maxRecDepth 100000
set_option linter.unusedSimpArgs false
open Go.RowKit

abbrev keyH : ByteArray := ⟨#[107, 101, 121]⟩
abbrev annH : ByteArray := ⟨#[97, 110, 110]⟩
abbrev bobH : ByteArray := ⟨#[98, 111, 98]⟩
abbrev dH : ByteArray := ⟨#[100]⟩
abbrev pW : Ps := ⟨7, ⟨#[119, 101, 98]⟩, ⟨#[97, 110, 110]⟩, 3⟩
theorem cutT_all {d : ByteArray} (h : d.size ≤ 255) : cutT d = d := by
  unfold cutT
  rw [Nat.min_eq_left h]
  apply ByteArray.ext
  simp [ByteArray.data_extract]
/-- A ticket's text, out of the proof that the law asks for. -/
theorem tix_of (key d : ByteArray) (n : Int) (lit : ByteArray) (hl : bs (decB n.toNat) = lit) : tixT key d n = (⟨(proofB key.data.toList [lit, cutT d]).toArray⟩ : ByteArray).extract 0 32 := by
  unfold tixT prfT
  rw [hl]
theorem prf_lit (key d : ByteArray) (n : Int) (lit : ByteArray) (hl : bs (decB n.toNat) = lit) (h : n.toNat ≤ 1099511627776) : (⟨(proofB key.data.toList [lit, cutT d]).toArray⟩ : ByteArray).size = 64 := by
  have := prf_size key d n h
  unfold prfT at this
  rwa [hl] at this
theorem tix_size (key d : ByteArray) (n : Int) (h : n.toNat ≤ 1099511627776) : (tixT key d n).size = 32 := by
  have h1 := prf_size key d n h
  unfold tixT
  rw [ByteArray.size_extract]
  omega
theorem h_iss1 (t : Int → ByteArray) : issT ⟨0, []⟩ pW t = (t 1, 0, ⟨1, [⟨t 1, pW⟩]⟩) := rfl
theorem h_iss2 (T : ByteArray) (t : Int → ByteArray) : issT ⟨1, [⟨T, pW⟩]⟩ pW t = (⟨#[]⟩, 4, ⟨1, [⟨T, pW⟩]⟩) := rfl
theorem h_red1 (T : ByteArray) : redT ⟨1, [⟨T, pW⟩]⟩ T bobH = (zeroPs, 131, ⟨1, [⟨T, pW⟩]⟩) := by
  unfold redT
  rw [List.find?_cons, show texT T ⟨T, pW⟩ = true from nmQ_same T]
  dsimp only
  rw [if_neg (by rw [show nmQ annH bobH = false from by kernel_rfl]; simp)]
theorem h_red2 (T : ByteArray) : redT ⟨1, [⟨T, pW⟩]⟩ T annH = (pW, 0, ⟨1, []⟩) := by
  unfold redT
  rw [List.find?_cons, show texT T ⟨T, pW⟩ = true from nmQ_same T]
  dsimp only
  rw [if_pos (nmQ_same _), List.eraseP_cons, show texT T ⟨T, pW⟩ = true from nmQ_same T]
  rfl
theorem h_red3 (T : ByteArray) : redT ⟨1, []⟩ T annH = (zeroPs, 151, ⟨1, []⟩) := rfl
theorem gk_w (T : ByteArray) : Gk ⟨1, [⟨T, pW⟩]⟩ := ⟨by simp, by simp, by show (0 : Int) ≤ 1; omega⟩
theorem gk_1 : Gk ⟨1, []⟩ := ⟨by simp, by simp, by show (0 : Int) ≤ 1; omega⟩
set_option maxRecDepth 100000 in
set_option maxHeartbeats 8000000 in
theorem thead_ok (w : World) (hG : Gl w) : Calls Tryd.prog 9 #[] w fun e w' => e = .returned (.bool true) ∧ Below w.heap.size w w' := by
  have HG := Lib.hid hG
  clear hG
  have HGB := Lib.hid (show ∀ u, Below w.heap.size w u → Gl u from fun u hu => HG.out.below hu HG.out.size)
  obtain ⟨T, hT⟩ : ∃ T, tixT keyH dH 1 = T := ⟨_, rfl⟩
  have hts : T.size = 32 := by rw [← hT]; exact tix_size _ _ _ (by decide)
  obtain ⟨PF, hPF⟩ : ∃ PF : ByteArray, (⟨(proofB keyL [⟨#[49]⟩, dH]).toArray⟩ : ByteArray) = PF := ⟨_, rfl⟩
  have hTP : PF.extract 0 32 = T := by
    rw [← hT, ← hPF, tix_of keyH dH 1 ⟨#[49]⟩ (by kernel_rfl), cutT_all (by decide)]
    rfl
  have hpf : PF.size = 64 := by
    rw [← hPF]
    have := prf_size keyH dH 1 (by decide)
    rw [show prfT keyH dH 1 = ⟨(proofB keyL [⟨#[49]⟩, dH]).toArray⟩ from by
      unfold prfT
      rw [cutT_all (by decide), show bs (decB (1 : Int).toNat) = ⟨#[49]⟩ by kernel_rfl]
      rfl] at this
    exact this
  have hpi : (32 : Int) ≤ (PF.size : Int) := by omega
  have hts2 : T.size ≤ 1099511627776 := by omega
  have hTT : (T.toList == T.toList) = true := by simp
  have HT := Lib.hid hT
  have HTS := Lib.hid hts
  have HEQ := Lib.hid (eqP_same pW)
  have HPF := Lib.hid hPF
  clear hT hPF
  have kc := fun (w : World) (C : Array Value) (n c : Nat) => Lib.run_convert_bytes_const (P := Tryd.prog) w 50 5 C n c Tryd.underlying50 Tryd.underlying5
  go_enter Tryd.func9, Tryd.ntmps9
  go_upto_region 2 with (go_at_call 10; (with_reducible refine (z_new (W := w) (Below.refl _ _) keyH (by decide)).mono ?_); rintro e u1 ⟨H1, tb, rfl, h1, -, -⟩; have HZ1 := Lib.hid h1; clear h1)
  go_upto_region 5 with fail
  obtain ⟨u2, hu2⟩ : ∃ u2, u1.alloc (.cells #[.int .i64 7, .string ⟨#[119, 101, 98]⟩, .string ⟨#[97, 110, 110]⟩, .int .i64 3] 31) = u2 := ⟨_, rfl⟩
  obtain ⟨gp, hgp⟩ : ∃ gp, u1.heap.size = gp := ⟨_, rfl⟩
  have HZ2 := Lib.hid (show Tz w u2 H1 tb keyH ⟨0, []⟩ by rw [← hu2]; exact HZ1.out.on ((Below.refl _ _).alloc (Nat.le_refl _) _))
  have HP2 := Lib.hid (show Bz u2 H1 gp 31 #[.int .i64 7, .string ⟨#[119, 101, 98]⟩, .string ⟨#[97, 110, 110]⟩, .int .i64 3] by rw [← hu2, ← hgp]; exact Bz.new HZ1.out.hi _ _)
  try rw [hu2]
  try rw [hgp]
  clear hu2 hgp
  have a0 : u2.cell? ⟨gp, 0, none⟩ = some (.int .i64 7) := HP2.out.b.cell 0
  have a1 : u2.cell? ⟨gp, 1, none⟩ = some (.string ⟨#[119, 101, 98]⟩) := HP2.out.b.cell 1
  have a2 : u2.cell? ⟨gp, 2, none⟩ = some (.string ⟨#[97, 110, 110]⟩) := HP2.out.b.cell 2
  have a3 : u2.cell? ⟨gp, 3, none⟩ = some (.int .i64 3) := HP2.out.b.cell 3
  go_upto_region 6 with (go_at_call 18; (with_reducible refine (z_issue HZ2.out gk_nil pW dH T 0 ⟨1, [⟨T, pW⟩]⟩ (by rw [h_iss1, HT.out]) (by decide) (by decide) (by decide) (by decide) (by decide) HG.out).mono ?_); rintro e u3 ⟨H3, rfl, h1, h2⟩; have HZ3 := Lib.hid h1; have HP3 := Lib.hid (HP2.out.step h2); clear h1 h2)
  clear a0 a1 a2 a3
  have a0 : u3.cell? ⟨gp, 0, none⟩ = some (.int .i64 7) := HP3.out.b.cell 0
  have a1 : u3.cell? ⟨gp, 1, none⟩ = some (.string ⟨#[119, 101, 98]⟩) := HP3.out.b.cell 1
  have a2 : u3.cell? ⟨gp, 2, none⟩ = some (.string ⟨#[97, 110, 110]⟩) := HP3.out.b.cell 2
  have a3 : u3.cell? ⟨gp, 3, none⟩ = some (.int .i64 3) := HP3.out.b.cell 3
  go_upto_region 7 with (go_at_call 18; (with_reducible refine (z_issue HZ3.out (gk_w T) pW dH ⟨#[]⟩ 4 ⟨1, [⟨T, pW⟩]⟩ (h_iss2 T _) (by decide) (by decide) (by show (1 : Int) ≤ _; omega) (by decide) (by decide) HG.out).mono ?_); rintro e u4 ⟨H4, rfl, h1, h2⟩; have HZ4 := Lib.hid h1; have HP4 := Lib.hid (HP3.out.step h2); clear h1 h2)
  clear a0 a1 a2 a3
  go_upto_region 8 with (go_at_call 13; (with_reducible refine (z_redeem HZ4.out (gk_w T) T bobH zeroPs 131 ⟨1, [⟨T, pW⟩]⟩ (h_red1 T) hts2).mono ?_); rintro e u5 ⟨H5, rfl, h1, h2⟩; have HZ5 := Lib.hid h1; have HP5 := Lib.hid (HP4.out.step h2); clear h1 h2)
  simp only [zeroPs]
  obtain ⟨u6, hu6⟩ : ∃ u6, u5.alloc (.cells #[.int .i64 0, .string ⟨#[]⟩, .string ⟨#[]⟩, .int .i64 0] 31) = u6 := ⟨_, rfl⟩
  have HZ6 := Lib.hid (show Tz w u6 H5 tb keyH ⟨1, [⟨T, pW⟩]⟩ by rw [← hu6]; exact HZ5.out.on ((Below.refl _ _).alloc (Nat.le_refl _) _))
  have HP6 := Lib.hid (show Bz u6 H5 gp 31 #[.int .i64 7, .string ⟨#[119, 101, 98]⟩, .string ⟨#[97, 110, 110]⟩, .int .i64 3] by rw [← hu6]; exact HP5.out.alloc _)
  try rw [hu6]
  clear hu6
  go_upto_region 9 with (go_at_call 13; (with_reducible refine (z_redeem HZ6.out (gk_w T) T annH pW 0 ⟨1, []⟩ (h_red2 T) hts2).mono ?_); rintro e u7 ⟨H7, rfl, h1, h2⟩; have HZ7 := Lib.hid h1; have HP7 := Lib.hid (HP6.out.step h2); clear h1 h2)
  obtain ⟨u8, hu8⟩ : ∃ u8, u7.alloc (.cells #[.int .i64 7, .string ⟨#[119, 101, 98]⟩, .string ⟨#[97, 110, 110]⟩, .int .i64 3] 31) = u8 := ⟨_, rfl⟩
  obtain ⟨gx, hgx⟩ : ∃ gx, u7.heap.size = gx := ⟨_, rfl⟩
  have HZ8 := Lib.hid (show Tz w u8 H7 tb keyH ⟨1, []⟩ by rw [← hu8]; exact HZ7.out.on ((Below.refl _ _).alloc (Nat.le_refl _) _))
  have HP8 := Lib.hid (show Bz u8 H7 gp 31 #[.int .i64 7, .string ⟨#[119, 101, 98]⟩, .string ⟨#[97, 110, 110]⟩, .int .i64 3] by rw [← hu8]; exact HP7.out.alloc _)
  have HX8 := Lib.hid (show Bz u8 H7 gx 31 #[.int .i64 7, .string ⟨#[119, 101, 98]⟩, .string ⟨#[97, 110, 110]⟩, .int .i64 3] by rw [← hu8, ← hgx]; exact Bz.new HZ7.out.hi _ _)
  try rw [hu8]
  try rw [hgx]
  clear hu8 hgx
  go_upto_region 10 with (go_at_call 13; (with_reducible refine (z_redeem HZ8.out gk_1 T annH zeroPs 151 ⟨1, []⟩ (h_red3 T) hts2).mono ?_); rintro e u9 ⟨H9, rfl, h1, h2⟩; have HZ9 := Lib.hid h1; have HP9 := Lib.hid (HP8.out.step h2); have HX9 := Lib.hid (HX8.out.step h2); clear h1 h2)
  simp only [zeroPs]
  obtain ⟨v, hv⟩ : ∃ v, u9.alloc (.cells #[.int .i64 0, .string ⟨#[]⟩, .string ⟨#[]⟩, .int .i64 0] 31) = v := ⟨_, rfl⟩
  have HZv := Lib.hid (show Tz w v H9 tb keyH ⟨1, []⟩ by rw [← hv]; exact HZ9.out.on ((Below.refl _ _).alloc (Nat.le_refl _) _))
  have HPv := Lib.hid (show Bz v H9 gp 31 #[.int .i64 7, .string ⟨#[119, 101, 98]⟩, .string ⟨#[97, 110, 110]⟩, .int .i64 3] by rw [← hv]; exact HP9.out.alloc _)
  have HXv := Lib.hid (show Bz v H9 gx 31 #[.int .i64 7, .string ⟨#[119, 101, 98]⟩, .string ⟨#[97, 110, 110]⟩, .int .i64 3] by rw [← hv]; exact HX9.out.alloc _)
  try rw [hv]
  clear hv
  go_wp2_with fail
  have h3 := const_words v 5 9 keyL (3, 4) ⟨#[49]⟩ ⟨#[100]⟩
  refine (rproof_ok (some ⟨v.heap.size, 0, none⟩) 3 3 keyL (some ⟨v.heap.size + 1, 0, none⟩) 2 2 [⟨#[49]⟩, ⟨#[100]⟩] _ rfl (Nat.le_refl _) (by omega) (by omega) h3.1 (fun h => by cases h) rfl (by omega) h3.2.1 (by decide) (by decide)).mono ?_
  rintro e w3 ⟨rfl, hb3⟩
  rw [HPF.out]
  have hbv := h3.2.2.trans (hb3.mono h3.2.2.size)
  have HZw := Lib.hid (HZv.out.on hbv)
  have HPw := Lib.hid (HPv.out.b.below hbv HPv.out.b.lt)
  have HXw := Lib.hid (HXv.out.b.below hbv HXv.out.b.lt)
  clear h3 hb3 hbv
  have a0 : w3.cell? ⟨gp, 0, none⟩ = some (.int .i64 7) := HPw.out.cell 0
  have a1 : w3.cell? ⟨gp, 1, none⟩ = some (.string ⟨#[119, 101, 98]⟩) := HPw.out.cell 1
  have a2 : w3.cell? ⟨gp, 2, none⟩ = some (.string ⟨#[97, 110, 110]⟩) := HPw.out.cell 2
  have a3 : w3.cell? ⟨gp, 3, none⟩ = some (.int .i64 3) := HPw.out.cell 3
  have b0 : w3.cell? ⟨gx, 0, none⟩ = some (.int .i64 7) := HXw.out.cell 0
  have b1 : w3.cell? ⟨gx, 1, none⟩ = some (.string ⟨#[119, 101, 98]⟩) := HXw.out.cell 1
  have b2 : w3.cell? ⟨gx, 2, none⟩ = some (.string ⟨#[97, 110, 110]⟩) := HXw.out.cell 2
  have b3 : w3.cell? ⟨gx, 3, none⟩ = some (.int .i64 3) := HXw.out.cell 3
  go_wp2_with (first
    | (refine wpList_eqp (by kernel_rfl) (.tmp 72) (.tmp 73) _ rfl pW pW rfl rfl ?_; rw [HEQ.out])
    | (go_at_call 20; (with_reducible refine (z_many HZw.out 0 rfl).mono ?_); rintro e w4 ⟨rfl, hb⟩; have HZ4 := Lib.hid (HZw.out.on hb); clear hb)
    | (go_at_call 16; (with_reducible refine (z_void HZ4.out gk_1 7 false ⟨1, []⟩ rfl).mono ?_); rintro e w5 ⟨H5', rfl, h1, -⟩; have HZ5 := Lib.hid h1; clear h1))
  go_ret
  exact ⟨rfl, HZ5.out.l⟩
end Go.Proofs.YtinbegnojfpeiaaDoor
