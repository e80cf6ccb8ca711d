/- The head of lease's laws: its live question is always answered yes. (Written by gen_lzh.py.) -/
import Derived.Test.YtpbobmiajjgekaaLEq
namespace Go.Proofs.Ytpbobmiajjgekaa
set_option linter.unusedVariables false
set_option maxRecDepth 100000
set_option linter.unusedSimpArgs false
open Go.RowKit

/-- At q lie those cells, away from the blocks of G. -/
structure Bz (u : World) (G : List Nat) (q : Nat) (t : TypeId) (cs : Array Value) : Prop where
  b : Bk u q t cs
  n : q ∉ G
theorem Bz.step {u u' : World} {G G' : List Nat} {q : Nat} {t : TypeId} {cs : Array Value} (h : Bz u G q t cs) (s : Sp u u' G G') : Bz u' G' q t cs :=
  ⟨h.b.ke s.k h.n, fun hm => by
    rcases s.g q hm with e | e
    · exact h.n e
    · have := h.b.lt; omega⟩
theorem Bz.alloc {u : World} {G : List Nat} {q : Nat} {t : TypeId} {cs : Array Value} (h : Bz u G q t cs) (o : Obj) : Bz (u.alloc o) G q t cs := ⟨h.b.alloc o, h.n⟩
theorem Bz.on {u u' : World} {G : List Nat} {q : Nat} {t : TypeId} {cs : Array Value} (h : Bz u G q t cs) (hb : Below u.heap.size u u') : Bz u' G q t cs := ⟨h.b.below hb h.b.lt, h.n⟩
theorem Bz.new {u : World} {G : List Nat} (hG : ∀ y ∈ G, y < u.heap.size) (t : TypeId) (cs : Array Value) : Bz (u.alloc (.cells cs t)) G u.heap.size t cs := ⟨Bk.new u t cs, fun hm => by have := hG _ hm; omega⟩
set_option maxRecDepth 100000 in
set_option maxHeartbeats 16000000 in
theorem lzhead_ok (w : World) : Calls Try.prog 10 #[] w fun e w' => e = .returned (.bool true) ∧ Below w.heap.size w w' := by
  have HNEW := Lib.hid (w_lnew (W := w) (u := w) (g := 5) (most := 100) (Below.refl _ w) (by decide) (by decide))
  have HNO := Lib.hid (fun u => w_lnew_no (g := 0) (most := 1) u (by decide))
  go_enter Try.func10, Try.ntmps10
  go_upto_region 2 with (go_at_call 11; refine HNEW.out.mono ?_; rintro e u0 ⟨G0, gb, rfl, h1, h2, h3⟩; have HL0 := Lib.hid h1; clear h1 h2 h3)
  go_upto_region 4 with (go_at_call 11; refine (HNO.out _).mono ?_; rintro e v0 ⟨rfl, hb⟩; have HLv0 := Lib.hid (HL0.out.on hb); clear hb)
  clear HNEW HNO
  go_upto_region 5 with (go_at_call 25; refine (w_claim HLv0.out ⟨#[97, 110, 110]⟩ ⟨#[119, 101, 98]⟩ 1 0 5 (by decide) (by decide) (by decide) ((⟨⟨#[119, 101, 98]⟩, ⟨#[97, 110, 110]⟩, 1, 1, 5, true⟩ : Ls), 0, ⟨[(⟨⟨#[119, 101, 98]⟩, ⟨#[97, 110, 110]⟩, 1, 1, 5, true⟩ : Ls)], 2⟩) (by kernel_rfl)).mono ?_; rintro e u4 ⟨G4, rfl, h1, h2⟩; have HC := Lib.hid h1; have HS := Lib.hid h2; clear h1 h2)
  obtain ⟨q4, hq⟩ : ∃ q, u4.heap.size = q := ⟨_, rfl⟩
  obtain ⟨v4, hv⟩ : ∃ v, u4.alloc (.cells #[.string ⟨#[119, 101, 98]⟩, .string ⟨#[97, 110, 110]⟩, .int .i64 1, .int .i64 1, .int .i64 5, .bool true] 32) = v := ⟨_, rfl⟩
  have HLv4 := Lib.hid (show Lw w v4 G4 gb 5 100 ⟨[(⟨⟨#[119, 101, 98]⟩, ⟨#[97, 110, 110]⟩, 1, 1, 5, true⟩ : Ls)], 2⟩ by rw [← hv]; exact HC.out.on ((Below.refl _ _).alloc (Nat.le_refl _) _))
  have HX4 := Lib.hid (show Bz v4 G4 q4 32 #[.string ⟨#[119, 101, 98]⟩, .string ⟨#[97, 110, 110]⟩, .int .i64 1, .int .i64 1, .int .i64 5, .bool true] by rw [← hv, ← hq]; exact Bz.new HC.out.hi _ _)
  try dsimp only
  rw [hv]
  try rw [hq]
  clear hv hq HC HS HLv0
  go_upto_region 6 with (go_at_call 25; refine (w_claim HLv4.out ⟨#[97, 110, 110]⟩ ⟨#[119, 101, 98]⟩ 1 4 5 (by decide) (by decide) (by decide) ((⟨⟨#[]⟩, ⟨#[]⟩, 0, 0, 0, false⟩ : Ls), 4, ⟨[(⟨⟨#[119, 101, 98]⟩, ⟨#[97, 110, 110]⟩, 1, 1, 5, true⟩ : Ls)], 2⟩) (by kernel_rfl)).mono ?_; rintro e u5 ⟨G5, rfl, h1, h2⟩; have HC := Lib.hid h1; have HS := Lib.hid h2; clear h1 h2)
  obtain ⟨q5, hq⟩ : ∃ q, u5.heap.size = q := ⟨_, rfl⟩
  obtain ⟨v5, hv⟩ : ∃ v, u5.alloc (.cells #[.string ⟨#[]⟩, .string ⟨#[]⟩, .int .i64 0, .int .i64 0, .int .i64 0, .bool false] 32) = v := ⟨_, rfl⟩
  have HLv5 := Lib.hid (show Lw w v5 G5 gb 5 100 ⟨[(⟨⟨#[119, 101, 98]⟩, ⟨#[97, 110, 110]⟩, 1, 1, 5, true⟩ : Ls)], 2⟩ by rw [← hv]; exact HC.out.on ((Below.refl _ _).alloc (Nat.le_refl _) _))
  have HX4 := Lib.hid (show Bz v5 G5 q4 32 #[.string ⟨#[119, 101, 98]⟩, .string ⟨#[97, 110, 110]⟩, .int .i64 1, .int .i64 1, .int .i64 5, .bool true] by rw [← hv]; exact (HX4.out.step HS.out).alloc _)
  try dsimp only
  rw [hv]
  try rw [hq]
  clear hv hq HC HS HLv4
  go_upto_region 7 with (go_at_call 25; refine (w_claim HLv5.out ⟨#[98, 111, 98]⟩ ⟨#[119, 101, 98]⟩ 2 9 5 (by decide) (by decide) (by decide) ((⟨⟨#[]⟩, ⟨#[]⟩, 0, 0, 0, false⟩ : Ls), 131, ⟨[(⟨⟨#[119, 101, 98]⟩, ⟨#[97, 110, 110]⟩, 1, 1, 5, true⟩ : Ls)], 2⟩) (by kernel_rfl)).mono ?_; rintro e u6 ⟨G6, rfl, h1, h2⟩; have HC := Lib.hid h1; have HS := Lib.hid h2; clear h1 h2)
  obtain ⟨q6, hq⟩ : ∃ q, u6.heap.size = q := ⟨_, rfl⟩
  obtain ⟨v6, hv⟩ : ∃ v, u6.alloc (.cells #[.string ⟨#[]⟩, .string ⟨#[]⟩, .int .i64 0, .int .i64 0, .int .i64 0, .bool false] 32) = v := ⟨_, rfl⟩
  have HLv6 := Lib.hid (show Lw w v6 G6 gb 5 100 ⟨[(⟨⟨#[119, 101, 98]⟩, ⟨#[97, 110, 110]⟩, 1, 1, 5, true⟩ : Ls)], 2⟩ by rw [← hv]; exact HC.out.on ((Below.refl _ _).alloc (Nat.le_refl _) _))
  have HX4 := Lib.hid (show Bz v6 G6 q4 32 #[.string ⟨#[119, 101, 98]⟩, .string ⟨#[97, 110, 110]⟩, .int .i64 1, .int .i64 1, .int .i64 5, .bool true] by rw [← hv]; exact (HX4.out.step HS.out).alloc _)
  try dsimp only
  rw [hv]
  try rw [hq]
  clear hv hq HC HS HLv5
  go_upto_region 8 with (go_at_call 25; refine (w_claim HLv6.out ⟨#[98, 111, 98]⟩ ⟨#[119, 101, 98]⟩ 2 10 500 (by decide) (by decide) (by decide) ((⟨⟨#[119, 101, 98]⟩, ⟨#[98, 111, 98]⟩, 2, 2, 110, true⟩ : Ls), 0, ⟨[(⟨⟨#[119, 101, 98]⟩, ⟨#[98, 111, 98]⟩, 2, 2, 110, true⟩ : Ls)], 3⟩) (by kernel_rfl)).mono ?_; rintro e u7 ⟨G7, rfl, h1, h2⟩; have HC := Lib.hid h1; have HS := Lib.hid h2; clear h1 h2)
  obtain ⟨q7, hq⟩ : ∃ q, u7.heap.size = q := ⟨_, rfl⟩
  obtain ⟨v7, hv⟩ : ∃ v, u7.alloc (.cells #[.string ⟨#[119, 101, 98]⟩, .string ⟨#[98, 111, 98]⟩, .int .i64 2, .int .i64 2, .int .i64 110, .bool true] 32) = v := ⟨_, rfl⟩
  have HLv7 := Lib.hid (show Lw w v7 G7 gb 5 100 ⟨[(⟨⟨#[119, 101, 98]⟩, ⟨#[98, 111, 98]⟩, 2, 2, 110, true⟩ : Ls)], 3⟩ by rw [← hv]; exact HC.out.on ((Below.refl _ _).alloc (Nat.le_refl _) _))
  have HX4 := Lib.hid (show Bz v7 G7 q4 32 #[.string ⟨#[119, 101, 98]⟩, .string ⟨#[97, 110, 110]⟩, .int .i64 1, .int .i64 1, .int .i64 5, .bool true] by rw [← hv]; exact (HX4.out.step HS.out).alloc _)
  have HX7 := Lib.hid (show Bz v7 G7 q7 32 #[.string ⟨#[119, 101, 98]⟩, .string ⟨#[98, 111, 98]⟩, .int .i64 2, .int .i64 2, .int .i64 110, .bool true] by rw [← hv, ← hq]; exact Bz.new HC.out.hi _ _)
  try dsimp only
  rw [hv]
  try rw [hq]
  clear hv hq HC HS HLv6
  go_upto_region 9 with (go_at_call 14; refine (w_renew HLv7.out ⟨#[98, 111, 98]⟩ ⟨#[119, 101, 98]⟩ 1 11 5 (by decide) ((⟨⟨#[]⟩, ⟨#[]⟩, 0, 0, 0, false⟩ : Ls), 132, ⟨[(⟨⟨#[119, 101, 98]⟩, ⟨#[98, 111, 98]⟩, 2, 2, 110, true⟩ : Ls)], 3⟩) (by kernel_rfl)).mono ?_; rintro e u8 ⟨rfl, h1, h2⟩; have HC := Lib.hid h1; have HS := Lib.hid h2; clear h1 h2)
  obtain ⟨q8, hq⟩ : ∃ q, u8.heap.size = q := ⟨_, rfl⟩
  obtain ⟨v8, hv⟩ : ∃ v, u8.alloc (.cells #[.string ⟨#[]⟩, .string ⟨#[]⟩, .int .i64 0, .int .i64 0, .int .i64 0, .bool false] 32) = v := ⟨_, rfl⟩
  have HLv8 := Lib.hid (show Lw w v8 G7 gb 5 100 ⟨[(⟨⟨#[119, 101, 98]⟩, ⟨#[98, 111, 98]⟩, 2, 2, 110, true⟩ : Ls)], 3⟩ by rw [← hv]; exact HC.out.on ((Below.refl _ _).alloc (Nat.le_refl _) _))
  have HX4 := Lib.hid (show Bz v8 G7 q4 32 #[.string ⟨#[119, 101, 98]⟩, .string ⟨#[97, 110, 110]⟩, .int .i64 1, .int .i64 1, .int .i64 5, .bool true] by rw [← hv]; exact (HX4.out.step HS.out).alloc _)
  have HX7 := Lib.hid (show Bz v8 G7 q7 32 #[.string ⟨#[119, 101, 98]⟩, .string ⟨#[98, 111, 98]⟩, .int .i64 2, .int .i64 2, .int .i64 110, .bool true] by rw [← hv]; exact (HX7.out.step HS.out).alloc _)
  try dsimp only
  rw [hv]
  try rw [hq]
  clear hv hq HC HS HLv7
  go_upto_region 10 with (go_at_call 16; refine (w_release HLv8.out ⟨#[98, 111, 98]⟩ ⟨#[119, 101, 98]⟩ 2 12 (by decide) (0, ⟨[(⟨⟨#[119, 101, 98]⟩, ⟨#[98, 111, 98]⟩, 2, 2, 17, false⟩ : Ls)], 3⟩) (by kernel_rfl)).mono ?_; rintro e u9 ⟨rfl, h1, h2⟩; have HC := Lib.hid h1; have HS := Lib.hid h2; clear h1 h2)
  have HLv9 := Lib.hid (show Lw w u9 G7 gb 5 100 ⟨[(⟨⟨#[119, 101, 98]⟩, ⟨#[98, 111, 98]⟩, 2, 2, 17, false⟩ : Ls)], 3⟩ from HC.out)
  have HX4 := Lib.hid (show Bz u9 G7 q4 32 #[.string ⟨#[119, 101, 98]⟩, .string ⟨#[97, 110, 110]⟩, .int .i64 1, .int .i64 1, .int .i64 5, .bool true] from HX4.out.step HS.out)
  have HX7 := Lib.hid (show Bz u9 G7 q7 32 #[.string ⟨#[119, 101, 98]⟩, .string ⟨#[98, 111, 98]⟩, .int .i64 2, .int .i64 2, .int .i64 110, .bool true] from HX7.out.step HS.out)
  clear HC HS HLv8
  go_upto_region 11 with (go_at_call 27; refine (w_holder HLv9.out ⟨#[119, 101, 98]⟩ 12 (by decide) (⟨⟨#[]⟩, ⟨#[]⟩, 0, 0, 0, false⟩ : Ls) false (by kernel_rfl) (by kernel_rfl)).mono ?_; rintro e u10 ⟨rfl, hb⟩; have HC := Lib.hid (HLv9.out.on hb); have HS := Lib.hid (show Sp u9 u10 G7 G7 from Sp.of (Ke.of hb).nil); clear hb)
  obtain ⟨v10, hv⟩ : ∃ v, u10.alloc (.cells #[.string ⟨#[]⟩, .string ⟨#[]⟩, .int .i64 0, .int .i64 0, .int .i64 0, .bool false] 32) = v := ⟨_, rfl⟩
  have HLv10 := Lib.hid (show Lw w v10 G7 gb 5 100 ⟨[(⟨⟨#[119, 101, 98]⟩, ⟨#[98, 111, 98]⟩, 2, 2, 17, false⟩ : Ls)], 3⟩ by rw [← hv]; exact HC.out.on ((Below.refl _ _).alloc (Nat.le_refl _) _))
  have HX4 := Lib.hid (show Bz v10 G7 q4 32 #[.string ⟨#[119, 101, 98]⟩, .string ⟨#[97, 110, 110]⟩, .int .i64 1, .int .i64 1, .int .i64 5, .bool true] by rw [← hv]; exact (HX4.out.step HS.out).alloc _)
  have HX7 := Lib.hid (show Bz v10 G7 q7 32 #[.string ⟨#[119, 101, 98]⟩, .string ⟨#[98, 111, 98]⟩, .int .i64 2, .int .i64 2, .int .i64 110, .bool true] by rw [← hv]; exact (HX7.out.step HS.out).alloc _)
  try dsimp only
  rw [hv]
  clear hv HC HS HLv9
  go_upto_region 12 with (go_at_call 25; refine (w_claim HLv10.out ⟨#[98, 111, 98]⟩ ⟨#[119, 101, 98]⟩ 3 13 5 (by decide) (by decide) (by decide) ((⟨⟨#[119, 101, 98]⟩, ⟨#[98, 111, 98]⟩, 3, 3, 18, true⟩ : Ls), 0, ⟨[(⟨⟨#[119, 101, 98]⟩, ⟨#[98, 111, 98]⟩, 3, 3, 18, true⟩ : Ls)], 4⟩) (by kernel_rfl)).mono ?_; rintro e u11 ⟨G11, rfl, h1, h2⟩; have HC := Lib.hid h1; have HS := Lib.hid h2; clear h1 h2)
  obtain ⟨q11, hq⟩ : ∃ q, u11.heap.size = q := ⟨_, rfl⟩
  obtain ⟨v11, hv⟩ : ∃ v, u11.alloc (.cells #[.string ⟨#[119, 101, 98]⟩, .string ⟨#[98, 111, 98]⟩, .int .i64 3, .int .i64 3, .int .i64 18, .bool true] 32) = v := ⟨_, rfl⟩
  have HLv11 := Lib.hid (show Lw w v11 G11 gb 5 100 ⟨[(⟨⟨#[119, 101, 98]⟩, ⟨#[98, 111, 98]⟩, 3, 3, 18, true⟩ : Ls)], 4⟩ by rw [← hv]; exact HC.out.on ((Below.refl _ _).alloc (Nat.le_refl _) _))
  have HX4 := Lib.hid (show Bz v11 G11 q4 32 #[.string ⟨#[119, 101, 98]⟩, .string ⟨#[97, 110, 110]⟩, .int .i64 1, .int .i64 1, .int .i64 5, .bool true] by rw [← hv]; exact (HX4.out.step HS.out).alloc _)
  have HX7 := Lib.hid (show Bz v11 G11 q7 32 #[.string ⟨#[119, 101, 98]⟩, .string ⟨#[98, 111, 98]⟩, .int .i64 2, .int .i64 2, .int .i64 110, .bool true] by rw [← hv]; exact (HX7.out.step HS.out).alloc _)
  have HX11 := Lib.hid (show Bz v11 G11 q11 32 #[.string ⟨#[119, 101, 98]⟩, .string ⟨#[98, 111, 98]⟩, .int .i64 3, .int .i64 3, .int .i64 18, .bool true] by rw [← hv, ← hq]; exact Bz.new HC.out.hi _ _)
  try dsimp only
  rw [hv]
  try rw [hq]
  clear hv hq HC HS HLv10
  go_wp2_with (first
    | (go_at_call 18; refine (w_evict HLv11.out ⟨#[119, 101, 98]⟩ 14 (by decide) (⟨⟨#[119, 101, 98]⟩, ⟨#[98, 111, 98]⟩, 3, 3, 18, true⟩ : Ls) true ⟨[], 4⟩ (by kernel_rfl) (by kernel_rfl) (by kernel_rfl)).mono ?_; rintro e u12 ⟨rfl, h1, h2⟩; have HC := Lib.hid h1; have HS := Lib.hid h2; clear h1 h2; have c4_0 : (u12.alloc (.cells #[.string ⟨#[119, 101, 98]⟩, .string ⟨#[98, 111, 98]⟩, .int .i64 3, .int .i64 3, .int .i64 18, .bool true] 32)).cell? ⟨q4, 0, none⟩ = some (.string ⟨#[119, 101, 98]⟩) := ((HX4.out.step HS.out).alloc _).b.cell 0; have c4_1 : (u12.alloc (.cells #[.string ⟨#[119, 101, 98]⟩, .string ⟨#[98, 111, 98]⟩, .int .i64 3, .int .i64 3, .int .i64 18, .bool true] 32)).cell? ⟨q4, 1, none⟩ = some (.string ⟨#[97, 110, 110]⟩) := ((HX4.out.step HS.out).alloc _).b.cell 1; have c4_2 : (u12.alloc (.cells #[.string ⟨#[119, 101, 98]⟩, .string ⟨#[98, 111, 98]⟩, .int .i64 3, .int .i64 3, .int .i64 18, .bool true] 32)).cell? ⟨q4, 2, none⟩ = some (.int .i64 1) := ((HX4.out.step HS.out).alloc _).b.cell 2; have c4_3 : (u12.alloc (.cells #[.string ⟨#[119, 101, 98]⟩, .string ⟨#[98, 111, 98]⟩, .int .i64 3, .int .i64 3, .int .i64 18, .bool true] 32)).cell? ⟨q4, 3, none⟩ = some (.int .i64 1) := ((HX4.out.step HS.out).alloc _).b.cell 3; have c4_4 : (u12.alloc (.cells #[.string ⟨#[119, 101, 98]⟩, .string ⟨#[98, 111, 98]⟩, .int .i64 3, .int .i64 3, .int .i64 18, .bool true] 32)).cell? ⟨q4, 4, none⟩ = some (.int .i64 5) := ((HX4.out.step HS.out).alloc _).b.cell 4; have c4_5 : (u12.alloc (.cells #[.string ⟨#[119, 101, 98]⟩, .string ⟨#[98, 111, 98]⟩, .int .i64 3, .int .i64 3, .int .i64 18, .bool true] 32)).cell? ⟨q4, 5, none⟩ = some (.bool true) := ((HX4.out.step HS.out).alloc _).b.cell 5; have c7_0 : (u12.alloc (.cells #[.string ⟨#[119, 101, 98]⟩, .string ⟨#[98, 111, 98]⟩, .int .i64 3, .int .i64 3, .int .i64 18, .bool true] 32)).cell? ⟨q7, 0, none⟩ = some (.string ⟨#[119, 101, 98]⟩) := ((HX7.out.step HS.out).alloc _).b.cell 0; have c7_1 : (u12.alloc (.cells #[.string ⟨#[119, 101, 98]⟩, .string ⟨#[98, 111, 98]⟩, .int .i64 3, .int .i64 3, .int .i64 18, .bool true] 32)).cell? ⟨q7, 1, none⟩ = some (.string ⟨#[98, 111, 98]⟩) := ((HX7.out.step HS.out).alloc _).b.cell 1; have c7_2 : (u12.alloc (.cells #[.string ⟨#[119, 101, 98]⟩, .string ⟨#[98, 111, 98]⟩, .int .i64 3, .int .i64 3, .int .i64 18, .bool true] 32)).cell? ⟨q7, 2, none⟩ = some (.int .i64 2) := ((HX7.out.step HS.out).alloc _).b.cell 2; have c7_3 : (u12.alloc (.cells #[.string ⟨#[119, 101, 98]⟩, .string ⟨#[98, 111, 98]⟩, .int .i64 3, .int .i64 3, .int .i64 18, .bool true] 32)).cell? ⟨q7, 3, none⟩ = some (.int .i64 2) := ((HX7.out.step HS.out).alloc _).b.cell 3; have c7_4 : (u12.alloc (.cells #[.string ⟨#[119, 101, 98]⟩, .string ⟨#[98, 111, 98]⟩, .int .i64 3, .int .i64 3, .int .i64 18, .bool true] 32)).cell? ⟨q7, 4, none⟩ = some (.int .i64 110) := ((HX7.out.step HS.out).alloc _).b.cell 4; have c7_5 : (u12.alloc (.cells #[.string ⟨#[119, 101, 98]⟩, .string ⟨#[98, 111, 98]⟩, .int .i64 3, .int .i64 3, .int .i64 18, .bool true] 32)).cell? ⟨q7, 5, none⟩ = some (.bool true) := ((HX7.out.step HS.out).alloc _).b.cell 5; have c11_0 : (u12.alloc (.cells #[.string ⟨#[119, 101, 98]⟩, .string ⟨#[98, 111, 98]⟩, .int .i64 3, .int .i64 3, .int .i64 18, .bool true] 32)).cell? ⟨q11, 0, none⟩ = some (.string ⟨#[119, 101, 98]⟩) := ((HX11.out.step HS.out).alloc _).b.cell 0; have c11_1 : (u12.alloc (.cells #[.string ⟨#[119, 101, 98]⟩, .string ⟨#[98, 111, 98]⟩, .int .i64 3, .int .i64 3, .int .i64 18, .bool true] 32)).cell? ⟨q11, 1, none⟩ = some (.string ⟨#[98, 111, 98]⟩) := ((HX11.out.step HS.out).alloc _).b.cell 1; have c11_2 : (u12.alloc (.cells #[.string ⟨#[119, 101, 98]⟩, .string ⟨#[98, 111, 98]⟩, .int .i64 3, .int .i64 3, .int .i64 18, .bool true] 32)).cell? ⟨q11, 2, none⟩ = some (.int .i64 3) := ((HX11.out.step HS.out).alloc _).b.cell 2; have c11_3 : (u12.alloc (.cells #[.string ⟨#[119, 101, 98]⟩, .string ⟨#[98, 111, 98]⟩, .int .i64 3, .int .i64 3, .int .i64 18, .bool true] 32)).cell? ⟨q11, 3, none⟩ = some (.int .i64 3) := ((HX11.out.step HS.out).alloc _).b.cell 3; have c11_4 : (u12.alloc (.cells #[.string ⟨#[119, 101, 98]⟩, .string ⟨#[98, 111, 98]⟩, .int .i64 3, .int .i64 3, .int .i64 18, .bool true] 32)).cell? ⟨q11, 4, none⟩ = some (.int .i64 18) := ((HX11.out.step HS.out).alloc _).b.cell 4; have c11_5 : (u12.alloc (.cells #[.string ⟨#[119, 101, 98]⟩, .string ⟨#[98, 111, 98]⟩, .int .i64 3, .int .i64 3, .int .i64 18, .bool true] 32)).cell? ⟨q11, 5, none⟩ = some (.bool true) := ((HX11.out.step HS.out).alloc _).b.cell 5; have HN := Lib.hid (Bk.new u12 32 #[.string ⟨#[119, 101, 98]⟩, .string ⟨#[98, 111, 98]⟩, .int .i64 3, .int .i64 3, .int .i64 18, .bool true]); have n0 : (u12.alloc (.cells #[.string ⟨#[119, 101, 98]⟩, .string ⟨#[98, 111, 98]⟩, .int .i64 3, .int .i64 3, .int .i64 18, .bool true] 32)).cell? ⟨u12.heap.size, 0, none⟩ = some (.string ⟨#[119, 101, 98]⟩) := HN.out.cell 0; have n1 : (u12.alloc (.cells #[.string ⟨#[119, 101, 98]⟩, .string ⟨#[98, 111, 98]⟩, .int .i64 3, .int .i64 3, .int .i64 18, .bool true] 32)).cell? ⟨u12.heap.size, 1, none⟩ = some (.string ⟨#[98, 111, 98]⟩) := HN.out.cell 1; have n2 : (u12.alloc (.cells #[.string ⟨#[119, 101, 98]⟩, .string ⟨#[98, 111, 98]⟩, .int .i64 3, .int .i64 3, .int .i64 18, .bool true] 32)).cell? ⟨u12.heap.size, 2, none⟩ = some (.int .i64 3) := HN.out.cell 2; have n3 : (u12.alloc (.cells #[.string ⟨#[119, 101, 98]⟩, .string ⟨#[98, 111, 98]⟩, .int .i64 3, .int .i64 3, .int .i64 18, .bool true] 32)).cell? ⟨u12.heap.size, 3, none⟩ = some (.int .i64 3) := HN.out.cell 3; have n4 : (u12.alloc (.cells #[.string ⟨#[119, 101, 98]⟩, .string ⟨#[98, 111, 98]⟩, .int .i64 3, .int .i64 3, .int .i64 18, .bool true] 32)).cell? ⟨u12.heap.size, 4, none⟩ = some (.int .i64 18) := HN.out.cell 4; have n5 : (u12.alloc (.cells #[.string ⟨#[119, 101, 98]⟩, .string ⟨#[98, 111, 98]⟩, .int .i64 3, .int .i64 3, .int .i64 18, .bool true] 32)).cell? ⟨u12.heap.size, 5, none⟩ = some (.bool true) := HN.out.cell 5)
    | (go_at_call 29; refine (w_all (HC.out.on ((Below.refl _ _).alloc (Nat.le_refl _) _)) 0 rfl).mono ?_; rintro e u13 ⟨A, c, rfl, -, -, hb⟩; have HB13 := Lib.hid hb; clear hb))
  go_ret
  exact ⟨rfl, (HC.out.on ((Below.refl _ _).alloc (Nat.le_refl _) _)).l.trans (HB13.out.mono (by have := HC.out.l.size; simp; omega))⟩
end Go.Proofs.Ytpbobmiajjgekaa
