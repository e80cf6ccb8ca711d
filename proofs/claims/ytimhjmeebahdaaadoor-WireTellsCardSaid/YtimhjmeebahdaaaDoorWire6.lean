/- wire.Get: its contract. (Written by gen_wget.py.) -/
import Derived.Test.YtimhjmeebahdaaaDoorWire2
import Derived.Test.YtimhjmeebahdaaaDoorWire5
import Derived.Test.YtimhjmeebahdaaaDoorTail
import Derived.Test.YtimhjmeebahdaaaDoorIdx
namespace Go.Proofs.YtimhjmeebahdaaaDoor
set_option linter.unusedVariables false
set_option linter.unusedSimpArgs false
open Go.RowKit

theorem msg_size : (Tryd.prog.info? 23).map (·.size) = some 5 := by kernel_rfl
/-- How Get answers. -/
def getE (r : Option Mg) : Ending := .returned (.tuple #[.agg (r.getD (zeroM 0)).cells, .bool r.isSome])

/-- What stands while the parts are read. -/
structure WgI (w : World) (Q : Nat → Nat) (x : Mg) (A : Option Addr) (l : List UInt8) (u : World) : Prop where
  row : Bk u (w.heap.size + 1) 23 x.cells
  res : Bk u w.heap.size 23 (zeroM 0).cells
  rd : Rds u Q (w.heap.size + 1)
  far : ∀ j, j < 4 → w.heap.size + 1 < Q j
  rb : Rb u w.heap.size A l
  glob : Gw u
  g0 : 0 < w.heap.size
  b : Below w.heap.size w u
/-- A part has been read, and stored. -/
theorem WgI.put {w u w1 : World} {Q : Nat → Nat} {x y : Mg} {A : Option Addr} {l : List UInt8} (H : WgI w Q x A l u) (hb : Below u.heap.size u w1) (i : Nat) (v : Value) (hy : x.cells.setIfInBounds i v = y.cells) {c : Nat} (k : Nat) (hc : l.length ≤ c) :
    WgI w Q y (tailA A c k) (l.drop k) (w1.setCell ⟨w.heap.size + 1, i, none⟩ v) := by
  have hB := H.b.size
  have h0 := H.g0
  have hbs : Below w.heap.size w1 (w1.setCell ⟨w.heap.size + 1, i, none⟩ v) := (Below.refl _ _).setCell (by show w.heap.size ≤ w.heap.size + 1; omega) _
  have hbu : Below w.heap.size u (w1.setCell ⟨w.heap.size + 1, i, none⟩ v) := (hb.mono hB).trans hbs
  refine ⟨?_, ((H.res.below hb H.res.lt).far (by show w.heap.size ≠ w.heap.size + 1; omega) _), ?_, H.far, (H.rb.below hbu (Nat.le_refl _)).tail k hc, H.glob.below hbu h0, h0, H.b.trans hbu⟩
  · have := (H.row.below hb H.row.lt).set i v
    rwa [hy] at this
  · have hr := H.rd.below hb (Nat.le_refl _)
    have f0 := H.far 0 (by omega)
    have f1 := H.far 1 (by omega)
    have f2 := H.far 2 (by omega)
    have f3 := H.far 3 (by omega)
    exact ⟨hr.a.far (by show Q 0 ≠ w.heap.size + 1; omega) (by show Q 0 + 1 ≠ w.heap.size + 1; omega) _, hr.b.far (by show Q 1 ≠ w.heap.size + 1; omega) (by show Q 1 + 1 ≠ w.heap.size + 1; omega) _, hr.n.far (by show Q 2 ≠ w.heap.size + 1; omega) (by show Q 2 + 1 ≠ w.heap.size + 1; omega) _, hr.m.far (by show Q 3 ≠ w.heap.size + 1; omega) (by show Q 3 + 1 ≠ w.heap.size + 1; omega) _⟩
theorem WgI.c {w u : World} {Q : Nat → Nat} {k n m : Int} {a b : ByteArray} {A : Option Addr} {l : List UInt8} (H : WgI w Q ⟨k, a, b, n, m⟩ A l u) :
    u.cell? ⟨w.heap.size + 1, 0, none⟩ = some (.int .i64 k) ∧ u.cell? ⟨w.heap.size + 1, 1, none⟩ = some (.string a) ∧ u.cell? ⟨w.heap.size + 1, 2, none⟩ = some (.string b) ∧ u.cell? ⟨w.heap.size + 1, 3, none⟩ = some (.int .i64 n) ∧ u.cell? ⟨w.heap.size + 1, 4, none⟩ = some (.int .i64 m) :=
  ⟨by rw [H.row.cell]; rfl, by rw [H.row.cell]; rfl, by rw [H.row.cell]; rfl, by rw [H.row.cell]; rfl, by rw [H.row.cell]; rfl⟩
theorem bk_msg {u : World} {g : Nat} {x : Mg} (H : Bk u g 23 x.cells) :
    u.cell? ⟨g, 0, none⟩ = some (.int .i64 x.k) ∧ u.cell? ⟨g, 1, none⟩ = some (.string x.a) ∧ u.cell? ⟨g, 2, none⟩ = some (.string x.b) ∧ u.cell? ⟨g, 3, none⟩ = some (.int .i64 x.n) ∧ u.cell? ⟨g, 4, none⟩ = some (.int .i64 x.m) :=
  ⟨by rw [H.cell]; rfl, by rw [H.cell]; rfl, by rw [H.cell]; rfl, by rw [H.cell]; rfl, by rw [H.cell]; rfl⟩
theorem cells_one (x : Mg) : x.cells.all (·.oneCell') = true := by simp [Value.oneCell']

theorem WgI.on {w u u' : World} {Q : Nat → Nat} {x : Mg} {A : Option Addr} {l : List UInt8} (H : WgI w Q x A l u) (hb : Below u.heap.size u u') : WgI w Q x A l u' :=
  ⟨H.row.below hb H.row.lt, H.res.below hb H.res.lt, H.rd.below hb (Nat.le_refl _), H.far, H.rb.below (hb.mono H.b.size) (Nat.le_refl _), H.glob.below hb H.glob.size, H.g0, H.b.trans (hb.mono H.b.size)⟩
theorem goW_no {k j : Nat} {x : Mg} {l : List UInt8} (hj : j < 4) (h : hasK k j = false) : goW k (4 - j) x l = goW k (4 - (j + 1)) x l := by
  have e : 4 - j = (4 - (j + 1)) + 1 := by omega
  have e2 : 3 - (4 - (j + 1)) = j := by omega
  rw [e, goW, e2, h]; rfl
theorem goW_none {k j : Nat} {x : Mg} {l : List UInt8} (hj : j < 4) (h : hasK k j = true) (hs : stepW j x l = none) : goW k (4 - j) x l = none := by
  have e : 4 - j = (4 - (j + 1)) + 1 := by omega
  have e2 : 3 - (4 - (j + 1)) = j := by omega
  rw [e, goW, e2, if_pos h, hs]; rfl
theorem goW_some {k j : Nat} {x y : Mg} {l l2 : List UInt8} (hj : j < 4) (h : hasK k j = true) (hs : stepW j x l = some (y, l2)) : goW k (4 - j) x l = goW k (4 - (j + 1)) y l2 := by
  have e : 4 - j = (4 - (j + 1)) + 1 := by omega
  have e2 : 3 - (4 - (j + 1)) = j := by omega
  rw [e, goW, e2, if_pos h, hs]; rfl
theorem readS_len {l t : List UInt8} (h : readS l = some t) : 1 + t.length ≤ l.length ∧ t.length ≤ 255 := by
  match l, h with
  | c :: r, h =>
    simp only [readS] at h
    split at h
    · rename_i hle
      injection h with h
      subst h
      have hc : c.toNat < 256 := c.toNat_lt
      rw [List.length_take, List.length_cons]
      omega
    · cases h
abbrev tup (K : Nat) (v : Bool) : Ending := .returned (.tuple #[.int .i64 (K : Int), .bool v])
section
variable {w : World} {Q : Nat → Nat} {x : Mg} {A : Option Addr} {l : List UInt8} {u : World} {n c : Nat}
theorem rd_S (H : WgI w Q x A l u) (hl : l.length ≤ 140737488355328) (hn : l.length = n) (j : Nat) (hj : j < 2) :
    Calls Tryd.prog 35 #[.slice A n c, .pointer (some ⟨Q j + 1, 0, none⟩), .pointer (some ⟨Q j, 0, none⟩)] u fun e w' =>
      e = tup (((readS l).map fun t => 1 + t.length).getD 0) (readS l).isSome ∧ ∃ w1, Below u.heap.size u w1 ∧ w' = w1.setCell ⟨w.heap.size + 1, j + 1, none⟩ (.string (bs ((readS l).getD []))) := by
  match j, hj with
  | 0, _ => exact intoS1_ok A l n c (Q 0) (w.heap.size + 1) 1 (.string x.a) u (H.rb.more H.b.size) hl hn H.rd.a (by rw [H.row.cell]; rfl) (H.row.frozen 1)
  | 1, _ => exact intoS1_ok A l n c (Q 1) (w.heap.size + 1) 2 (.string x.b) u (H.rb.more H.b.size) hl hn H.rd.b (by rw [H.row.cell]; rfl) (H.row.frozen 2)
theorem rd_N (H : WgI w Q x A l u) (hl : l.length ≤ 140737488355328) (hn : l.length = n) (j : Nat) (hj : 2 ≤ j ∧ j < 4) :
    Calls Tryd.prog 37 #[.slice A n c, .pointer (some ⟨Q j + 1, 0, none⟩), .pointer (some ⟨Q j, 0, none⟩)] u fun e w' =>
      e = tup (((getS l).map fun p => p.2).getD 0) (getS l).isSome ∧ ∃ w1, Below u.heap.size u w1 ∧ w' = w1.setCell ⟨w.heap.size + 1, j + 1, none⟩ (.int .i64 (((getS l).map (·.1)).getD 0 : Nat)) := by
  match j, hj with
  | 2, _ => exact intoN1_ok A l n c (Q 2) (w.heap.size + 1) 3 (.int .i64 x.n) u (H.rb.more H.b.size) hl hn H.rd.n (by rw [H.row.cell]; rfl) (H.row.frozen 3)
  | 3, _ => exact intoN1_ok A l n c (Q 3) (w.heap.size + 1) 4 (.int .i64 x.m) u (H.rb.more H.b.size) hl hn H.rd.m (by rw [H.row.cell]; rfl) (H.row.frozen 4)
end

set_option maxRecDepth 100000 in
set_option maxHeartbeats 8000000 in
theorem wget_ok (A : Option Addr) (l : List UInt8) (n c : Nat) (w : World) (hG : Gw w) (hR : Rb w w.heap.size A l) (hl : l.length ≤ 140737488355328) (hn : l.length = n) (hc : n ≤ c) (hc2 : c ≤ 9223372036854775807) :
    Calls Tryd.prog 11 #[.slice A n c] w fun e w' => e = getE (getW l) ∧ Below w.heap.size w w' := by
  obtain ⟨RR, hRR⟩ : ∃ RR, getW l = RR := ⟨_, rfl⟩
  rw [hRR]
  have hres := Bk.new w 23 (zeroM 0).cells
  have hb1 : Below w.heap.size w (w.alloc (.cells (zeroM 0).cells 23)) := (Below.refl _ _).alloc (Nat.le_refl _) _
  have hZ : (zeroM 0).cells = #[.int .i64 0, .string ⟨#[]⟩, .string ⟨#[]⟩, .int .i64 0, .int .i64 0] := rfl
  cases l with
  | nil =>
    obtain rfl : n = 0 := hn.symm
    obtain rfl : RR = none := hRR.symm
    clear hRR hR
    go_enter Tryd.func11, Tryd.ntmps11
    go_upto_region 1 with (fail)
    rw [← hZ]
    generalize w.alloc (.cells (zeroM 0).cells 23) = w1 at hres hb1 ⊢
    have HRES := Lib.hid hres
    go_wp2_with (refine wpList_store_row rfl 23 (.tmp 2) (.tmp 21) rfl w.heap.size (zeroM 0).cells rfl rfl 23 _ HRES.out msg_size rfl (cells_one _) ?_)
    obtain ⟨q0, q1, q2, q3, q4⟩ := bk_msg (x := zeroM 0) (show Bk (w1.setRow w.heap.size #[.int .i64 0, .string ⟨#[]⟩, .string ⟨#[]⟩, .int .i64 0, .int .i64 0]) w.heap.size 23 _ from (hres).setRow _)
    simp only [zeroM, bs] at q0 q1 q2 q3 q4
    have hB := Below.setRow (hb1) w.heap.size (Nat.le_refl _) #[.int .i64 0, .string ⟨#[]⟩, .string ⟨#[]⟩, .int .i64 0, .int .i64 0]
    generalize w1.setRow w.heap.size #[.int .i64 0, .string ⟨#[]⟩, .string ⟨#[]⟩, .int .i64 0, .int .i64 0] = w2 at q0 q1 q2 q3 q4 hB ⊢
    exact bodyPost_ret (v := .tuple #[.agg #[.int .i64 0, .string ⟨#[]⟩, .string ⟨#[]⟩, .int .i64 0, .int .i64 0], .bool false]) (by simp [results, Tryd.results11, go_sem, q0, q1, q2, q3, q4]) rfl ⟨rfl, hB⟩
  | cons b0 r =>
    obtain ⟨b, o, rfl, hob, hcell⟩ : ∃ b o, A = some ⟨b, o, none⟩ ∧ b < w.heap.size ∧ ∀ i, (h : i < (b0 :: r).length) → w.cell? ⟨b, o + i, none⟩ = some (.int .u8 (((b0 :: r)[i]).toNat : Int)) := by
      rcases hR with h | ⟨b, o, e, h1, h2⟩
      · cases h
      · exact ⟨b, o, e, h1, h2⟩
    obtain ⟨q, hq⟩ : ∃ q : Nat, q = b0.toNat := ⟨_, rfl⟩
    have c0 : w.cell? ⟨b, o, none⟩ = some (.int .u8 (q : Int)) := by
      have := hcell 0 (by simp)
      rw [hq]; simpa using this
    have hnr : r.length + 1 = n := by rw [← hn]; rfl
    have HRB := Lib.hid hR
    have HK := Lib.hid (fun u => known_ok (q : Int) u)
    have HRR := Lib.hid (show (if knownB (q : Int) = true then endW (goW q 4 (zeroM q) r) else none) = RR by rw [← hRR, hq]; rfl)
    have hn0 : ((n : Int) == 0) = false := by rw [beq_eq_false_iff_ne]; omega
    have hn1 : (0 : Int) < (n : Int) := by omega
    have hn2 : 0 < n := by omega
    have hnl : n ≤ 140737488355328 := by omega
    have hq2 : q < 256 := by rw [hq]; exact b0.toNat_lt
    have hwq : IntKind.i64.wrap (q : Int) = (q : Int) := by simp (disch := omega) only [IntWalk.i64_in]
    obtain ⟨kb, hkb⟩ : ∃ kb, knownB (q : Int) = kb := ⟨_, rfl⟩
    rw [hkb] at HK HRR
    have HKB := Lib.hid hkb
    have HGW := Lib.hid hG
    have HNR := Lib.hid hnr
    clear hRR hcell hq hR hn hl hkb hG hnr
    go_enter Tryd.func11, Tryd.ntmps11
    go_upto_region 1 with (fail)
    rw [← hZ]
    have HZ1 := Lib.hid (show (w.alloc (.cells (zeroM 0).cells 23)).heap.size = w.heap.size + 1 by simp)
    generalize w.alloc (.cells (zeroM 0).cells 23) = w1 at hres hb1 HZ1 ⊢
    have HRES := Lib.hid hres
    have HB1 := Lib.hid hb1
    have c1 : w1.cell? ⟨b, o, none⟩ = some (.int .u8 (q : Int)) := (hb1.cell (p := ⟨b, o, none⟩) hob).trans c0
    clear hres hb1
    cases kb with
    | false =>
      have HRN : RR = none := HRR.out.symm
      have HRN := Lib.hid HRN
      clear HRR
      go_wp2_with (first
        | (refine (HK.out _).mono ?_; rintro e u1 ⟨rfl, rfl⟩)
        | (refine wpList_store_row rfl 23 (.tmp 2) (.tmp 21) rfl w.heap.size (zeroM 0).cells rfl rfl 23 _ HRES.out msg_size rfl (cells_one _) ?_))
      rw [HRN.out]
      obtain ⟨q0, q1, q2, q3, q4⟩ := bk_msg (x := zeroM 0) (show Bk (w1.setRow w.heap.size #[.int .i64 0, .string ⟨#[]⟩, .string ⟨#[]⟩, .int .i64 0, .int .i64 0]) w.heap.size 23 _ from (HRES.out).setRow _)
      simp only [zeroM, bs] at q0 q1 q2 q3 q4
      have hB := Below.setRow (HB1.out) w.heap.size (Nat.le_refl _) #[.int .i64 0, .string ⟨#[]⟩, .string ⟨#[]⟩, .int .i64 0, .int .i64 0]
      generalize w1.setRow w.heap.size #[.int .i64 0, .string ⟨#[]⟩, .string ⟨#[]⟩, .int .i64 0, .int .i64 0] = w2 at q0 q1 q2 q3 q4 hB ⊢
      exact bodyPost_ret (v := .tuple #[.agg #[.int .i64 0, .string ⟨#[]⟩, .string ⟨#[]⟩, .int .i64 0, .int .i64 0], .bool false]) (by simp [results, Tryd.results11, go_sem, q0, q1, q2, q3, q4]) rfl ⟨rfl, hB⟩
    | true =>
      go_upto_region 3 with (refine (HK.out _).mono ?_; rintro e u1 ⟨rfl, rfl⟩)
      have HKN := Lib.hid (show q < 15 by have := HKB.out; unfold knownB at this; simp only [Bool.and_eq_true, decide_eq_true_eq] at this; omega)
      have hRR2 := HRR.out
      simp only [if_true] at hRR2
      have HRQ := Lib.hid hRR2
      have HSL := Lib.hid (show ∀ u, (Instr.sliceAt 24 (.slice (some ⟨b, o, none⟩) n c) (some (.int .i64 1)) none none).run Tryd.prog u = .ok (.slice (tailA (some ⟨b, o, none⟩) c 1) (n - 1) (c - 1)) u from fun u => slice_fr (some ⟨b, o, none⟩) n c 1 (by omega) hc u)
      have hz1 : w1.heap.size = w.heap.size + 1 := HZ1.out
      clear HRR hRR2
      try simp only [List.cons_append, List.nil_append]
      refine wp_region_held_drew (S := fun u => Bk u w.heap.size 23 (zeroM 0).cells ∧ Below w.heap.size w u) (by kernel_rfl) (show Bk w1.drew w.heap.size 23 (zeroM 0).cells ∧ Below w.heap.size w w1.drew from ⟨HRES.out.drew, HB1.out.drew⟩) (fun hHeld => ?_)
      refine take_at (some 22) (i := 0) (v := ?_) rfl rfl (by kernel_rfl) (by kernel_rfl) (by kernel_rfl) (fun _ _ _ h => h) (Or.inl ⟨by kernel_rfl, ?_⟩) hHeld ?_
      rotate_left
      · intro wz hSw; have cz := (hSw.2.cell (p := ⟨b, o, none⟩) hob).trans c0; go_simp; try (with_reducible rfl)
      try simp only [Act.put, List.setIfInBounds_toArray, List.set_cons_zero, List.set_cons_succ, List.getElem_toArray, List.getElem_cons_succ, List.getElem_cons_zero]
      refine take_at (some 23) (i := 1) (v := ?_) rfl rfl (by kernel_rfl) (by kernel_rfl) (by kernel_rfl) (fun _ _ _ h => h) (Or.inl ⟨by kernel_rfl, ?_⟩) hHeld ?_
      rotate_left
      · intro wz hSw; have cz := (hSw.2.cell (p := ⟨b, o, none⟩) hob).trans c0; go_simp; try (with_reducible rfl)
      try simp only [Act.put, List.setIfInBounds_toArray, List.set_cons_zero, List.set_cons_succ, List.getElem_toArray, List.getElem_cons_succ, List.getElem_cons_zero]
      refine take_at (some 24) (i := 2) (v := ?_) rfl rfl (by kernel_rfl) (by kernel_rfl) (by kernel_rfl) (fun _ _ _ h => h) (Or.inl ⟨by kernel_rfl, ?_⟩) hHeld ?_
      rotate_left
      · intro wz hSw; have cz := (hSw.2.cell (p := ⟨b, o, none⟩) hob).trans c0; go_simp; try (with_reducible rfl)
      try simp only [Act.put, List.setIfInBounds_toArray, List.set_cons_zero, List.set_cons_succ, List.getElem_toArray, List.getElem_cons_succ, List.getElem_cons_zero]
      refine take_at (some 25) (i := 3) (v := ?_) rfl rfl (by kernel_rfl) (by kernel_rfl) (by kernel_rfl) (fun _ _ _ h => h) (Or.inl ⟨by kernel_rfl, ?_⟩) hHeld ?_
      rotate_left
      · intro wz hSw; have cz := (hSw.2.cell (p := ⟨b, o, none⟩) hob).trans c0; go_simp; try (with_reducible rfl)
      try simp only [Act.put, List.setIfInBounds_toArray, List.set_cons_zero, List.set_cons_succ, List.getElem_toArray, List.getElem_cons_succ, List.getElem_cons_zero]
      refine take_at (some 26) (i := 4) (v := ?_) rfl rfl (by kernel_rfl) (by kernel_rfl) (by kernel_rfl) (fun _ _ _ h => h) (Or.inl ⟨by kernel_rfl, ?_⟩) hHeld ?_
      rotate_left
      · intro wz hSw; have cz := (hSw.2.cell (p := ⟨b, o, none⟩) hob).trans c0; go_simp; try (with_reducible rfl)
      try simp only [Act.put, List.setIfInBounds_toArray, List.set_cons_zero, List.set_cons_succ, List.getElem_toArray, List.getElem_cons_succ, List.getElem_cons_zero]
      refine take_at (some 27) (i := 5) (v := ?_) rfl rfl (by kernel_rfl) (by kernel_rfl) (by kernel_rfl) (fun _ _ _ h => h) (Or.inl ⟨by kernel_rfl, ?_⟩) hHeld ?_
      rotate_left
      · intro wz hSw; go_simp; try (with_reducible rfl)
      try simp only [Act.put, List.setIfInBounds_toArray, List.set_cons_zero, List.set_cons_succ, List.getElem_toArray, List.getElem_cons_succ, List.getElem_cons_zero]
      refine take_at (some 28) (i := 6) rfl rfl (by kernel_rfl) (by kernel_rfl) (by kernel_rfl) (fun _ _ _ h => h) (yieldsIf_slice (by kernel_rfl) 24 (.tmp 27) (some (.const (.int .i64 1))) none rfl (.slice (tailA (some ⟨b, o, none⟩) c 1) (n - 1) (c - 1)) HSL.out) hHeld ?_
      try simp only [Act.put, List.setIfInBounds_toArray, List.set_cons_zero, List.set_cons_succ, List.getElem_toArray, List.getElem_cons_succ, List.getElem_cons_zero]
      refine wpAnyH_ready (rs := [7]) (by kernel_rfl) (by simp) (AllReadyH.cons rfl (fun K hK => ?_) AllReadyH.nil)
      rw [if_pos (by kernel_rfl)]
      go_simp
      have hb5 : Below w.heap.size w (w1.alloc (.cells #[.int .i64 0, .string ⟨#[]⟩, .string ⟨#[]⟩, .int .i64 0, .int .i64 0] 23)).drew := (HB1.out.alloc HB1.out.size _).drew
      have hr5 : Bk (w1.alloc (.cells #[.int .i64 0, .string ⟨#[]⟩, .string ⟨#[]⟩, .int .i64 0, .int .i64 0] 23)).drew w.heap.size 23 (zeroM 0).cells := (HRES.out.alloc _).drew
      have hm5 : Bk (w1.alloc (.cells #[.int .i64 0, .string ⟨#[]⟩, .string ⟨#[]⟩, .int .i64 0, .int .i64 0] 23)).drew (w.heap.size + 1) 23 (zeroM 0).cells := (Bk.here (w := w1) (by omega)).drew
      generalize (w1.alloc (.cells #[.int .i64 0, .string ⟨#[]⟩, .string ⟨#[]⟩, .int .i64 0, .int .i64 0] 23)).drew = w5 at hb5 hr5 hm5 ⊢
      refine hK.out _ _ ⟨hr5, hb5⟩ (fun hHeld => ?_)
      try simp only [Act.put, List.setIfInBounds_toArray, List.set_cons_zero, List.set_cons_succ, List.getElem_toArray, List.getElem_cons_succ, List.getElem_cons_zero]
      refine wpAnyH_ready (rs := [8]) (by kernel_rfl) (by simp) (AllReadyH.cons rfl (fun K hK => ?_) AllReadyH.nil)
      rw [if_pos (by kernel_rfl)]
      refine wp_store_row 23 (.tmp 4) (.tmp 26) rfl (w.heap.size + 1) (zeroM q).cells rfl rfl 23 _ hm5 msg_size rfl (cells_one _) ?_
      try dsimp only
      have hb6 := Below.setRow hb5 (w.heap.size + 1) (by omega) (zeroM q).cells
      have hr6 := hr5.setRowFar (g' := w.heap.size + 1) (by omega) (zeroM q).cells
      have hm6 := hm5.setRow (zeroM q).cells
      generalize w5.setRow (w.heap.size + 1) (zeroM q).cells = w6 at hb6 hr6 hm6 ⊢
      refine hK.out _ _ ⟨hr6, hb6⟩ (fun hHeld => ?_)
      try simp only [Act.put, List.setIfInBounds_toArray, List.set_cons_zero, List.set_cons_succ, List.getElem_toArray, List.getElem_cons_succ, List.getElem_cons_zero]
      refine take_at (some 5) (i := 9) (v := ?_) rfl rfl (by kernel_rfl) (by kernel_rfl) (by kernel_rfl) (fun _ _ _ h => h) (Or.inl ⟨by kernel_rfl, ?_⟩) hHeld ?_
      rotate_left
      · intro wz hSw; go_simp; try (with_reducible rfl)
      try simp only [Act.put, List.setIfInBounds_toArray, List.set_cons_zero, List.set_cons_succ, List.getElem_toArray, List.getElem_cons_succ, List.getElem_cons_zero]
      refine wpAnyH_done (by kernel_rfl) ?_ _
      have HI := Lib.hid (show 0 < w.heap.size from HGW.out.size)
      have HG6 := Lib.hid (HGW.out.below hb6 HGW.out.size)
      have HR6 := Lib.hid ((HRB.out.below hb6 (Nat.le_refl _)).tail (c := c) 1 (by have := HNR.out; rw [List.length_cons]; omega))
      have HB6 := Lib.hid hb6
      have HS6 := Lib.hid hr6
      have HM6 := Lib.hid hm6
      have hs6 : w.heap.size + 1 < w6.heap.size := hm6.lt
      have HL0 := Lib.hid (show r.length = n - 1 by have := HNR.out; omega)
      clear hb5 hr5 hm5 hb6 hr6 hm6 hHeld hK HB1 HRES HSL HK HKB c0 c1 HZ1 hz1 HRB hwq hn0 hn1
      go_wp2_with fail
      refine (readers_ok (w.heap.size + 1) _).mono ?_
      rintro e w7 ⟨Q, rfl, hQ, hRd, hb7⟩
      have H7 := Lib.hid (show WgI w Q (zeroM q) (tailA (some ⟨b, o, none⟩) c 1) r w7 from ⟨HM6.out.below hb7 HM6.out.lt, HS6.out.below hb7 HS6.out.lt, hRd, fun j hj => by have := hQ j hj; omega, (HR6.out.below hb7 (by omega)), HG6.out.below hb7 HG6.out.size, HI.out, HB6.out.trans (hb7.mono (by omega))⟩)
      clear HM6 HS6 hRd hQ hb7 HR6 HG6 HB6 hs6
      go_wp2_with fail
      go_loopw [5, 30] (fun v5 v30 wr => ∃ (j : Nat) (xa xb : ByteArray) (xn xm : Int) (A' : Option Addr) (n' c' : Nat) (l' : List UInt8), j ≤ 4 ∧ v30 = .int .i64 j ∧ v5 = .slice A' n' c' ∧ Hid (l'.length = n') ∧ n' ≤ c' ∧ c' ≤ 9223372036854775807 ∧ n' ≤ 140737488355328 ∧ Hid (xa.size ≤ 255 ∧ xb.size ≤ 255) ∧ Hid (WgI w Q ⟨q, xa, xb, xn, xm⟩ A' l' wr) ∧ Hid (endW (goW q (4 - j) ⟨q, xa, xb, xn, xm⟩ l') = RR)) (fun _ v30 _ => 4 - (intOf v30).toNat)
      case atStart => exact ⟨0, bs [], bs [], 0, 0, _, _, _, r, by omega, rfl, rfl, HL0, by omega, by omega, by omega, Lib.hid ⟨by rw [bs_size]; exact Nat.zero_le _, by rw [bs_size]; exact Nat.zero_le _⟩, H7, HRQ⟩
      case round =>
        obtain ⟨j, xa, xb, xn, xm, A', n', c', l', hj, rfl, rfl, HL, hnc, hcm, hnm, HSZ, HW, HQ⟩ := hrel
        clear H7 HRQ HL0
        have hHas := Lib.hid (fun (jj : Nat) (hjj : jj < 4) => has_ok q jj wr HW.out.glob HKN.out hjj)
        obtain ⟨x0, x1, x2, x3, x4⟩ := HW.out.c
        obtain rfl | rfl | rfl | rfl | rfl : j = 0 ∨ j = 1 ∨ j = 2 ∨ j = 3 ∨ j = 4 := by omega
        · obtain ⟨z, hz⟩ : ∃ z, hasK q 0 = z := ⟨_, rfl⟩
          have hcall := Lib.hid (hHas.out 0 (by omega))
          rw [hz] at hcall
          have HZZ := Lib.hid hz
          clear hz hHas
          cases z with
          | false =>
            have HQ2 := Lib.hid (show endW (goW q (4 - (0 + 1)) ⟨q, xa, xb, xn, xm⟩ l') = RR by rw [← goW_no (by omega) HZZ.out]; exact HQ.out)
            go_wp2_with (first | (refine wpList_index rfl 39 (.tmp 29) (.tmp 30) rfl _ _ (rdF (Q 0)) rfl rfl (run_idx 39 38 4 _ 0 _ Tryd.underlying39 Tryd.isAgg38 Tryd.sizeOf38 (by omega) rfl _) ?_) | (refine hcall.out.mono ?_; rintro e u1 ⟨rfl, rfl⟩))
            go_roundw
            case rel => exact ⟨1, xa, xb, xn, xm, A', n', c', l', by omega, rfl, rfl, HL, hnc, hcm, hnm, HSZ, HW, HQ2⟩
            case measure => simp [intOf]
          | true =>
            have hrd := rd_S (c := c') HW.out (by have := HL.out; omega) HL.out 0 (by omega)
            obtain ⟨RD, hRD⟩ : ∃ RD, readS l' = RD := ⟨_, rfl⟩
            rw [hRD] at hrd
            cases RD with
            | none =>
              simp only [Option.map_none, Option.getD_none, Option.isSome_none] at hrd
              have HRD := Lib.hid hrd
              have HN := Lib.hid (show none = RR by rw [← HQ.out, goW_none (by omega) HZZ.out (by simp only [stepW]; rw [hRD]; rfl)]; rfl)
              clear hRD hrd
              go_wp2_with (first | (refine wpList_index rfl 39 (.tmp 29) (.tmp 30) rfl _ _ (rdF (Q 0)) rfl rfl (run_idx 39 38 4 _ 0 _ Tryd.underlying39 Tryd.isAgg38 Tryd.sizeOf38 (by omega) rfl _) ?_) | (refine hcall.out.mono ?_; rintro e u1 ⟨rfl, rfl⟩) | (refine HRD.out.mono ?_; rintro e w9 ⟨rfl, w8, hb8, hw9⟩; have H9 := Lib.hid (show WgI w Q ⟨q, bs [], xb, xn, xm⟩ (tailA A' c' 0) (l'.drop 0) w9 by rw [hw9]; exact HW.out.put hb8 1 (.string (bs [])) rfl 0 (by have := HL.out; omega)); clear hw9 hb8) | (refine wpList_store_row rfl 23 (.tmp 2) (.tmp 47) rfl w.heap.size (zeroM 0).cells rfl rfl 23 _ H9.out.res msg_size rfl (cells_one _) ?_))
              rw [← HN.out]
              obtain ⟨q0, q1, q2, q3, q4⟩ := bk_msg (x := zeroM 0) (show Bk (w9.setRow w.heap.size #[.int .i64 0, .string ⟨#[]⟩, .string ⟨#[]⟩, .int .i64 0, .int .i64 0]) w.heap.size 23 _ from (H9.out.res).setRow _)
              simp only [zeroM, bs] at q0 q1 q2 q3 q4
              have hB := Below.setRow (H9.out.b) w.heap.size (Nat.le_refl _) #[.int .i64 0, .string ⟨#[]⟩, .string ⟨#[]⟩, .int .i64 0, .int .i64 0]
              generalize w9.setRow w.heap.size #[.int .i64 0, .string ⟨#[]⟩, .string ⟨#[]⟩, .int .i64 0, .int .i64 0] = w2 at q0 q1 q2 q3 q4 hB ⊢
              exact bodyPost_ret (v := .tuple #[.agg #[.int .i64 0, .string ⟨#[]⟩, .string ⟨#[]⟩, .int .i64 0, .int .i64 0], .bool false]) (by simp [results, Tryd.results11, go_sem, q0, q1, q2, q3, q4]) rfl ⟨rfl, hB⟩
            | some t =>
              obtain ⟨ht1, ht2⟩ := readS_len hRD
              obtain ⟨K, hK⟩ : ∃ K, 1 + t.length = K := ⟨_, rfl⟩
              simp only [Option.map_some, Option.getD_some, Option.isSome_some] at hrd
              rw [hK] at hrd ht1
              have HRD := Lib.hid hrd
              have HN := Lib.hid (show endW (goW q (4 - (0 + 1)) ⟨q, bs t, xb, xn, xm⟩ (l'.drop K)) = RR by rw [← goW_some (x := ⟨q, xa, xb, xn, xm⟩) (l := l') (show 0 < 4 by omega) HZZ.out (by simp only [stepW]; rw [hRD]; rw [← hK]; rfl)]; exact HQ.out)
              have HKL := Lib.hid (show K ≤ n' by have := HL.out; omega)
              have HS2 := Lib.hid (show (⟨q, bs t, xb, xn, xm⟩ : Mg).a.size ≤ 255 ∧ (⟨q, bs t, xb, xn, xm⟩ : Mg).b.size ≤ 255 from ⟨by rw [bs_size]; omega, HSZ.out.2⟩)
              have HKL2 : K ≤ n' := HKL.out
              clear hRD hrd hK ht1 ht2
              go_wp2_with (first | (refine wpList_index rfl 39 (.tmp 29) (.tmp 30) rfl _ _ (rdF (Q 0)) rfl rfl (run_idx 39 38 4 _ 0 _ Tryd.underlying39 Tryd.isAgg38 Tryd.sizeOf38 (by omega) rfl _) ?_) | (refine hcall.out.mono ?_; rintro e u1 ⟨rfl, rfl⟩) | (refine HRD.out.mono ?_; rintro e w9 ⟨rfl, w8, hb8, hw9⟩; have H9 := Lib.hid (show WgI w Q ⟨q, bs t, xb, xn, xm⟩ (tailA A' c' K) (l'.drop K) w9 by rw [hw9]; exact HW.out.put hb8 1 (.string (bs t)) rfl K (by have := HL.out; omega)); clear hw9 hb8) | (refine wpList_from rfl 24 (.tmp 48) (.tmp 49) rfl _ _ _ rfl rfl (slice_fr A' n' c' K HKL.out hnc _) ?_))
              go_roundw
              case rel => exact ⟨1, bs t, xb, xn, xm, _, _, _, l'.drop K, by omega, rfl, rfl, Lib.hid (by rw [List.length_drop, HL.out]), by omega, by omega, by omega, HS2, H9, HN⟩
              case measure => simp [intOf]
        · obtain ⟨z, hz⟩ : ∃ z, hasK q 1 = z := ⟨_, rfl⟩
          have hcall := Lib.hid (hHas.out 1 (by omega))
          rw [hz] at hcall
          have HZZ := Lib.hid hz
          clear hz hHas
          cases z with
          | false =>
            have HQ2 := Lib.hid (show endW (goW q (4 - (1 + 1)) ⟨q, xa, xb, xn, xm⟩ l') = RR by rw [← goW_no (by omega) HZZ.out]; exact HQ.out)
            go_wp2_with (first | (refine wpList_index rfl 39 (.tmp 29) (.tmp 30) rfl _ _ (rdF (Q 1)) rfl rfl (run_idx 39 38 4 _ 1 _ Tryd.underlying39 Tryd.isAgg38 Tryd.sizeOf38 (by omega) rfl _) ?_) | (refine hcall.out.mono ?_; rintro e u1 ⟨rfl, rfl⟩))
            go_roundw
            case rel => exact ⟨2, xa, xb, xn, xm, A', n', c', l', by omega, rfl, rfl, HL, hnc, hcm, hnm, HSZ, HW, HQ2⟩
            case measure => simp [intOf]
          | true =>
            have hrd := rd_S (c := c') HW.out (by have := HL.out; omega) HL.out 1 (by omega)
            obtain ⟨RD, hRD⟩ : ∃ RD, readS l' = RD := ⟨_, rfl⟩
            rw [hRD] at hrd
            cases RD with
            | none =>
              simp only [Option.map_none, Option.getD_none, Option.isSome_none] at hrd
              have HRD := Lib.hid hrd
              have HN := Lib.hid (show none = RR by rw [← HQ.out, goW_none (by omega) HZZ.out (by simp only [stepW]; rw [hRD]; rfl)]; rfl)
              clear hRD hrd
              go_wp2_with (first | (refine wpList_index rfl 39 (.tmp 29) (.tmp 30) rfl _ _ (rdF (Q 1)) rfl rfl (run_idx 39 38 4 _ 1 _ Tryd.underlying39 Tryd.isAgg38 Tryd.sizeOf38 (by omega) rfl _) ?_) | (refine hcall.out.mono ?_; rintro e u1 ⟨rfl, rfl⟩) | (refine HRD.out.mono ?_; rintro e w9 ⟨rfl, w8, hb8, hw9⟩; have H9 := Lib.hid (show WgI w Q ⟨q, xa, bs [], xn, xm⟩ (tailA A' c' 0) (l'.drop 0) w9 by rw [hw9]; exact HW.out.put hb8 2 (.string (bs [])) rfl 0 (by have := HL.out; omega)); clear hw9 hb8) | (refine wpList_store_row rfl 23 (.tmp 2) (.tmp 47) rfl w.heap.size (zeroM 0).cells rfl rfl 23 _ H9.out.res msg_size rfl (cells_one _) ?_))
              rw [← HN.out]
              obtain ⟨q0, q1, q2, q3, q4⟩ := bk_msg (x := zeroM 0) (show Bk (w9.setRow w.heap.size #[.int .i64 0, .string ⟨#[]⟩, .string ⟨#[]⟩, .int .i64 0, .int .i64 0]) w.heap.size 23 _ from (H9.out.res).setRow _)
              simp only [zeroM, bs] at q0 q1 q2 q3 q4
              have hB := Below.setRow (H9.out.b) w.heap.size (Nat.le_refl _) #[.int .i64 0, .string ⟨#[]⟩, .string ⟨#[]⟩, .int .i64 0, .int .i64 0]
              generalize w9.setRow w.heap.size #[.int .i64 0, .string ⟨#[]⟩, .string ⟨#[]⟩, .int .i64 0, .int .i64 0] = w2 at q0 q1 q2 q3 q4 hB ⊢
              exact bodyPost_ret (v := .tuple #[.agg #[.int .i64 0, .string ⟨#[]⟩, .string ⟨#[]⟩, .int .i64 0, .int .i64 0], .bool false]) (by simp [results, Tryd.results11, go_sem, q0, q1, q2, q3, q4]) rfl ⟨rfl, hB⟩
            | some t =>
              obtain ⟨ht1, ht2⟩ := readS_len hRD
              obtain ⟨K, hK⟩ : ∃ K, 1 + t.length = K := ⟨_, rfl⟩
              simp only [Option.map_some, Option.getD_some, Option.isSome_some] at hrd
              rw [hK] at hrd ht1
              have HRD := Lib.hid hrd
              have HN := Lib.hid (show endW (goW q (4 - (1 + 1)) ⟨q, xa, bs t, xn, xm⟩ (l'.drop K)) = RR by rw [← goW_some (x := ⟨q, xa, xb, xn, xm⟩) (l := l') (show 1 < 4 by omega) HZZ.out (by simp only [stepW]; rw [hRD]; rw [← hK]; rfl)]; exact HQ.out)
              have HKL := Lib.hid (show K ≤ n' by have := HL.out; omega)
              have HS2 := Lib.hid (show (⟨q, xa, bs t, xn, xm⟩ : Mg).a.size ≤ 255 ∧ (⟨q, xa, bs t, xn, xm⟩ : Mg).b.size ≤ 255 from ⟨HSZ.out.1, by rw [bs_size]; omega⟩)
              have HKL2 : K ≤ n' := HKL.out
              clear hRD hrd hK ht1 ht2
              go_wp2_with (first | (refine wpList_index rfl 39 (.tmp 29) (.tmp 30) rfl _ _ (rdF (Q 1)) rfl rfl (run_idx 39 38 4 _ 1 _ Tryd.underlying39 Tryd.isAgg38 Tryd.sizeOf38 (by omega) rfl _) ?_) | (refine hcall.out.mono ?_; rintro e u1 ⟨rfl, rfl⟩) | (refine HRD.out.mono ?_; rintro e w9 ⟨rfl, w8, hb8, hw9⟩; have H9 := Lib.hid (show WgI w Q ⟨q, xa, bs t, xn, xm⟩ (tailA A' c' K) (l'.drop K) w9 by rw [hw9]; exact HW.out.put hb8 2 (.string (bs t)) rfl K (by have := HL.out; omega)); clear hw9 hb8) | (refine wpList_from rfl 24 (.tmp 48) (.tmp 49) rfl _ _ _ rfl rfl (slice_fr A' n' c' K HKL.out hnc _) ?_))
              go_roundw
              case rel => exact ⟨2, xa, bs t, xn, xm, _, _, _, l'.drop K, by omega, rfl, rfl, Lib.hid (by rw [List.length_drop, HL.out]), by omega, by omega, by omega, HS2, H9, HN⟩
              case measure => simp [intOf]
        · obtain ⟨z, hz⟩ : ∃ z, hasK q 2 = z := ⟨_, rfl⟩
          have hcall := Lib.hid (hHas.out 2 (by omega))
          rw [hz] at hcall
          have HZZ := Lib.hid hz
          clear hz hHas
          cases z with
          | false =>
            have HQ2 := Lib.hid (show endW (goW q (4 - (2 + 1)) ⟨q, xa, xb, xn, xm⟩ l') = RR by rw [← goW_no (by omega) HZZ.out]; exact HQ.out)
            go_wp2_with (first | (refine wpList_index rfl 39 (.tmp 29) (.tmp 30) rfl _ _ (rdG (Q 2)) rfl rfl (run_idx 39 38 4 _ 2 _ Tryd.underlying39 Tryd.isAgg38 Tryd.sizeOf38 (by omega) rfl _) ?_) | (refine hcall.out.mono ?_; rintro e u1 ⟨rfl, rfl⟩))
            go_roundw
            case rel => exact ⟨3, xa, xb, xn, xm, A', n', c', l', by omega, rfl, rfl, HL, hnc, hcm, hnm, HSZ, HW, HQ2⟩
            case measure => simp [intOf]
          | true =>
            have hrd := rd_N (c := c') HW.out (by have := HL.out; omega) HL.out 2 (by omega)
            obtain ⟨RD, hRD⟩ : ∃ RD, getS l' = RD := ⟨_, rfl⟩
            rw [hRD] at hrd
            cases RD with
            | none =>
              simp only [Option.map_none, Option.getD_none, Option.isSome_none] at hrd
              have HRD := Lib.hid hrd
              have HN := Lib.hid (show none = RR by rw [← HQ.out, goW_none (by omega) HZZ.out (by simp only [stepW]; rw [hRD]; rfl)]; rfl)
              clear hRD hrd
              go_wp2_with (first | (refine wpList_index rfl 39 (.tmp 29) (.tmp 30) rfl _ _ (rdG (Q 2)) rfl rfl (run_idx 39 38 4 _ 2 _ Tryd.underlying39 Tryd.isAgg38 Tryd.sizeOf38 (by omega) rfl _) ?_) | (refine hcall.out.mono ?_; rintro e u1 ⟨rfl, rfl⟩) | (refine HRD.out.mono ?_; rintro e w9 ⟨rfl, w8, hb8, hw9⟩; have H9 := Lib.hid (show WgI w Q ⟨q, xa, xb, ((0 : Nat) : Int), xm⟩ (tailA A' c' 0) (l'.drop 0) w9 by rw [hw9]; exact HW.out.put hb8 3 (.int .i64 ((0 : Nat) : Int)) rfl 0 (by have := HL.out; omega)); clear hw9 hb8) | (refine wpList_store_row rfl 23 (.tmp 2) (.tmp 47) rfl w.heap.size (zeroM 0).cells rfl rfl 23 _ H9.out.res msg_size rfl (cells_one _) ?_))
              rw [← HN.out]
              obtain ⟨q0, q1, q2, q3, q4⟩ := bk_msg (x := zeroM 0) (show Bk (w9.setRow w.heap.size #[.int .i64 0, .string ⟨#[]⟩, .string ⟨#[]⟩, .int .i64 0, .int .i64 0]) w.heap.size 23 _ from (H9.out.res).setRow _)
              simp only [zeroM, bs] at q0 q1 q2 q3 q4
              have hB := Below.setRow (H9.out.b) w.heap.size (Nat.le_refl _) #[.int .i64 0, .string ⟨#[]⟩, .string ⟨#[]⟩, .int .i64 0, .int .i64 0]
              generalize w9.setRow w.heap.size #[.int .i64 0, .string ⟨#[]⟩, .string ⟨#[]⟩, .int .i64 0, .int .i64 0] = w2 at q0 q1 q2 q3 q4 hB ⊢
              exact bodyPost_ret (v := .tuple #[.agg #[.int .i64 0, .string ⟨#[]⟩, .string ⟨#[]⟩, .int .i64 0, .int .i64 0], .bool false]) (by simp [results, Tryd.results11, go_sem, q0, q1, q2, q3, q4]) rfl ⟨rfl, hB⟩
            | some t =>
              obtain ⟨y, K⟩ := t
              obtain ⟨hk1, ht1, hy, _⟩ := get_is l' y K hRD
              simp only [Option.map_some, Option.getD_some, Option.isSome_some] at hrd
              have HRD := Lib.hid hrd
              have HN := Lib.hid (show endW (goW q (4 - (2 + 1)) ⟨q, xa, xb, (y : Int), xm⟩ (l'.drop K)) = RR by rw [← goW_some (x := ⟨q, xa, xb, xn, xm⟩) (l := l') (show 2 < 4 by omega) HZZ.out (by simp only [stepW]; rw [hRD]; rfl)]; exact HQ.out)
              have HKL := Lib.hid (show K ≤ n' by have := HL.out; omega)
              have HS2 := Lib.hid (show (⟨q, xa, xb, (y : Int), xm⟩ : Mg).a.size ≤ 255 ∧ (⟨q, xa, xb, (y : Int), xm⟩ : Mg).b.size ≤ 255 from HSZ.out)
              have HKL2 : K ≤ n' := HKL.out
              clear hRD hrd hk1 ht1 hy
              go_wp2_with (first | (refine wpList_index rfl 39 (.tmp 29) (.tmp 30) rfl _ _ (rdG (Q 2)) rfl rfl (run_idx 39 38 4 _ 2 _ Tryd.underlying39 Tryd.isAgg38 Tryd.sizeOf38 (by omega) rfl _) ?_) | (refine hcall.out.mono ?_; rintro e u1 ⟨rfl, rfl⟩) | (refine HRD.out.mono ?_; rintro e w9 ⟨rfl, w8, hb8, hw9⟩; have H9 := Lib.hid (show WgI w Q ⟨q, xa, xb, (y : Int), xm⟩ (tailA A' c' K) (l'.drop K) w9 by rw [hw9]; exact HW.out.put hb8 3 (.int .i64 (y : Int)) rfl K (by have := HL.out; omega)); clear hw9 hb8) | (refine wpList_from rfl 24 (.tmp 48) (.tmp 49) rfl _ _ _ rfl rfl (slice_fr A' n' c' K HKL.out hnc _) ?_))
              go_roundw
              case rel => exact ⟨3, xa, xb, y, xm, _, _, _, l'.drop K, by omega, rfl, rfl, Lib.hid (by rw [List.length_drop, HL.out]), by omega, by omega, by omega, HS2, H9, HN⟩
              case measure => simp [intOf]
        · obtain ⟨z, hz⟩ : ∃ z, hasK q 3 = z := ⟨_, rfl⟩
          have hcall := Lib.hid (hHas.out 3 (by omega))
          rw [hz] at hcall
          have HZZ := Lib.hid hz
          clear hz hHas
          cases z with
          | false =>
            have HQ2 := Lib.hid (show endW (goW q (4 - (3 + 1)) ⟨q, xa, xb, xn, xm⟩ l') = RR by rw [← goW_no (by omega) HZZ.out]; exact HQ.out)
            go_wp2_with (first | (refine wpList_index rfl 39 (.tmp 29) (.tmp 30) rfl _ _ (rdG (Q 3)) rfl rfl (run_idx 39 38 4 _ 3 _ Tryd.underlying39 Tryd.isAgg38 Tryd.sizeOf38 (by omega) rfl _) ?_) | (refine hcall.out.mono ?_; rintro e u1 ⟨rfl, rfl⟩))
            go_roundw
            case rel => exact ⟨4, xa, xb, xn, xm, A', n', c', l', by omega, rfl, rfl, HL, hnc, hcm, hnm, HSZ, HW, HQ2⟩
            case measure => simp [intOf]
          | true =>
            have hrd := rd_N (c := c') HW.out (by have := HL.out; omega) HL.out 3 (by omega)
            obtain ⟨RD, hRD⟩ : ∃ RD, getS l' = RD := ⟨_, rfl⟩
            rw [hRD] at hrd
            cases RD with
            | none =>
              simp only [Option.map_none, Option.getD_none, Option.isSome_none] at hrd
              have HRD := Lib.hid hrd
              have HN := Lib.hid (show none = RR by rw [← HQ.out, goW_none (by omega) HZZ.out (by simp only [stepW]; rw [hRD]; rfl)]; rfl)
              clear hRD hrd
              go_wp2_with (first | (refine wpList_index rfl 39 (.tmp 29) (.tmp 30) rfl _ _ (rdG (Q 3)) rfl rfl (run_idx 39 38 4 _ 3 _ Tryd.underlying39 Tryd.isAgg38 Tryd.sizeOf38 (by omega) rfl _) ?_) | (refine hcall.out.mono ?_; rintro e u1 ⟨rfl, rfl⟩) | (refine HRD.out.mono ?_; rintro e w9 ⟨rfl, w8, hb8, hw9⟩; have H9 := Lib.hid (show WgI w Q ⟨q, xa, xb, xn, ((0 : Nat) : Int)⟩ (tailA A' c' 0) (l'.drop 0) w9 by rw [hw9]; exact HW.out.put hb8 4 (.int .i64 ((0 : Nat) : Int)) rfl 0 (by have := HL.out; omega)); clear hw9 hb8) | (refine wpList_store_row rfl 23 (.tmp 2) (.tmp 47) rfl w.heap.size (zeroM 0).cells rfl rfl 23 _ H9.out.res msg_size rfl (cells_one _) ?_))
              rw [← HN.out]
              obtain ⟨q0, q1, q2, q3, q4⟩ := bk_msg (x := zeroM 0) (show Bk (w9.setRow w.heap.size #[.int .i64 0, .string ⟨#[]⟩, .string ⟨#[]⟩, .int .i64 0, .int .i64 0]) w.heap.size 23 _ from (H9.out.res).setRow _)
              simp only [zeroM, bs] at q0 q1 q2 q3 q4
              have hB := Below.setRow (H9.out.b) w.heap.size (Nat.le_refl _) #[.int .i64 0, .string ⟨#[]⟩, .string ⟨#[]⟩, .int .i64 0, .int .i64 0]
              generalize w9.setRow w.heap.size #[.int .i64 0, .string ⟨#[]⟩, .string ⟨#[]⟩, .int .i64 0, .int .i64 0] = w2 at q0 q1 q2 q3 q4 hB ⊢
              exact bodyPost_ret (v := .tuple #[.agg #[.int .i64 0, .string ⟨#[]⟩, .string ⟨#[]⟩, .int .i64 0, .int .i64 0], .bool false]) (by simp [results, Tryd.results11, go_sem, q0, q1, q2, q3, q4]) rfl ⟨rfl, hB⟩
            | some t =>
              obtain ⟨y, K⟩ := t
              obtain ⟨hk1, ht1, hy, _⟩ := get_is l' y K hRD
              simp only [Option.map_some, Option.getD_some, Option.isSome_some] at hrd
              have HRD := Lib.hid hrd
              have HN := Lib.hid (show endW (goW q (4 - (3 + 1)) ⟨q, xa, xb, xn, (y : Int)⟩ (l'.drop K)) = RR by rw [← goW_some (x := ⟨q, xa, xb, xn, xm⟩) (l := l') (show 3 < 4 by omega) HZZ.out (by simp only [stepW]; rw [hRD]; rfl)]; exact HQ.out)
              have HKL := Lib.hid (show K ≤ n' by have := HL.out; omega)
              have HS2 := Lib.hid (show (⟨q, xa, xb, xn, (y : Int)⟩ : Mg).a.size ≤ 255 ∧ (⟨q, xa, xb, xn, (y : Int)⟩ : Mg).b.size ≤ 255 from HSZ.out)
              have HKL2 : K ≤ n' := HKL.out
              clear hRD hrd hk1 ht1 hy
              go_wp2_with (first | (refine wpList_index rfl 39 (.tmp 29) (.tmp 30) rfl _ _ (rdG (Q 3)) rfl rfl (run_idx 39 38 4 _ 3 _ Tryd.underlying39 Tryd.isAgg38 Tryd.sizeOf38 (by omega) rfl _) ?_) | (refine hcall.out.mono ?_; rintro e u1 ⟨rfl, rfl⟩) | (refine HRD.out.mono ?_; rintro e w9 ⟨rfl, w8, hb8, hw9⟩; have H9 := Lib.hid (show WgI w Q ⟨q, xa, xb, xn, (y : Int)⟩ (tailA A' c' K) (l'.drop K) w9 by rw [hw9]; exact HW.out.put hb8 4 (.int .i64 (y : Int)) rfl K (by have := HL.out; omega)); clear hw9 hb8) | (refine wpList_from rfl 24 (.tmp 48) (.tmp 49) rfl _ _ _ rfl rfl (slice_fr A' n' c' K HKL.out hnc _) ?_))
              go_roundw
              case rel => exact ⟨4, xa, xb, xn, y, _, _, _, l'.drop K, by omega, rfl, rfl, Lib.hid (by rw [List.length_drop, HL.out]), by omega, by omega, by omega, HS2, H9, HN⟩
              case measure => simp [intOf]
        · have HQ4 := Lib.hid (show (if l' = [] ∧ rightM ⟨q, xa, xb, xn, xm⟩ = true then some (⟨q, xa, xb, xn, xm⟩ : Mg) else none) = RR from HQ.out)
          clear hHas HQ
          by_cases h0 : n' = 0
          · have hl0 : l' = [] := List.eq_nil_of_length_eq_zero (by rw [HL.out]; exact h0)
            obtain ⟨rb, hrb⟩ : ∃ rb, rightM ⟨q, xa, xb, xn, xm⟩ = rb := ⟨_, rfl⟩
            have HRT := Lib.hid (right_ok ⟨q, xa, xb, xn, xm⟩ wr HW.out.glob (Nat.le_trans HSZ.out.1 (by omega)) (Nat.le_trans HSZ.out.2 (by omega)))
            rw [hrb] at HRT HQ4
            have HLN := Lib.hid hl0
            subst h0
            clear hrb hl0
            cases rb with
            | false =>
              have HN := Lib.hid (show none = RR by rw [← HQ4.out]; simp)
              clear HQ4
              go_wp2_with (first | (refine HRT.out.mono ?_; rintro e w9 ⟨rfl, hb9⟩; have H9 := Lib.hid (HW.out.on hb9); clear hb9; obtain ⟨y0, y1, y2, y3, y4⟩ := H9.out.c) | (refine wpList_store_row rfl 23 (.tmp 2) (.tmp 60) rfl w.heap.size (zeroM 0).cells rfl rfl 23 _ H9.out.res msg_size rfl (cells_one _) ?_))
              rw [← HN.out]
              obtain ⟨q0, q1, q2, q3, q4⟩ := bk_msg (x := zeroM 0) (show Bk (w9.setRow w.heap.size #[.int .i64 0, .string ⟨#[]⟩, .string ⟨#[]⟩, .int .i64 0, .int .i64 0]) w.heap.size 23 _ from (H9.out.res).setRow _)
              simp only [zeroM, bs] at q0 q1 q2 q3 q4
              have hB := Below.setRow (H9.out.b) w.heap.size (Nat.le_refl _) #[.int .i64 0, .string ⟨#[]⟩, .string ⟨#[]⟩, .int .i64 0, .int .i64 0]
              generalize w9.setRow w.heap.size #[.int .i64 0, .string ⟨#[]⟩, .string ⟨#[]⟩, .int .i64 0, .int .i64 0] = w2 at q0 q1 q2 q3 q4 hB ⊢
              exact bodyPost_ret (v := .tuple #[.agg #[.int .i64 0, .string ⟨#[]⟩, .string ⟨#[]⟩, .int .i64 0, .int .i64 0], .bool false]) (by simp [results, Tryd.results11, go_sem, q0, q1, q2, q3, q4]) rfl ⟨rfl, hB⟩
            | true =>
              have HN := Lib.hid (show some (⟨q, xa, xb, xn, xm⟩ : Mg) = RR by rw [← HQ4.out, if_pos ⟨HLN.out, rfl⟩])
              clear HQ4
              go_wp2_with (first | (refine HRT.out.mono ?_; rintro e w9 ⟨rfl, hb9⟩; have H9 := Lib.hid (HW.out.on hb9); clear hb9; obtain ⟨y0, y1, y2, y3, y4⟩ := H9.out.c) | (refine wpList_store_row rfl 23 (.tmp 2) (.tmp 61) rfl w.heap.size (Mg.cells ⟨q, xa, xb, xn, xm⟩) rfl rfl 23 _ H9.out.res msg_size rfl (cells_one _) ?_))
              rw [← HN.out]
              obtain ⟨q0, q1, q2, q3, q4⟩ := bk_msg (x := ⟨q, xa, xb, xn, xm⟩) (show Bk (w9.setRow w.heap.size #[.int .i64 (q : Int), .string xa, .string xb, .int .i64 xn, .int .i64 xm]) w.heap.size 23 _ from (H9.out.res).setRow _)
              simp only at q0 q1 q2 q3 q4
              have hB := Below.setRow (H9.out.b) w.heap.size (Nat.le_refl _) #[.int .i64 (q : Int), .string xa, .string xb, .int .i64 xn, .int .i64 xm]
              generalize w9.setRow w.heap.size #[.int .i64 (q : Int), .string xa, .string xb, .int .i64 xn, .int .i64 xm] = w2 at q0 q1 q2 q3 q4 hB ⊢
              exact bodyPost_ret (v := .tuple #[.agg #[.int .i64 (q : Int), .string xa, .string xb, .int .i64 xn, .int .i64 xm], .bool true]) (by simp [results, Tryd.results11, go_sem, q0, q1, q2, q3, q4]) rfl ⟨rfl, hB⟩
          · have HN := Lib.hid (show none = RR by rw [← HQ4.out, if_neg (by rintro ⟨h, _⟩; rw [h] at HL; exact h0 HL.out.symm)])
            have hpos : (0 : Int) < (n' : Int) := by omega
            clear HQ4
            go_wp2_with (refine wpList_store_row rfl 23 (.tmp 2) (.tmp 60) rfl w.heap.size (zeroM 0).cells rfl rfl 23 _ HW.out.res msg_size rfl (cells_one _) ?_)
            rw [← HN.out]
            obtain ⟨q0, q1, q2, q3, q4⟩ := bk_msg (x := zeroM 0) (show Bk (wr.setRow w.heap.size #[.int .i64 0, .string ⟨#[]⟩, .string ⟨#[]⟩, .int .i64 0, .int .i64 0]) w.heap.size 23 _ from (HW.out.res).setRow _)
            simp only [zeroM, bs] at q0 q1 q2 q3 q4
            have hB := Below.setRow (HW.out.b) w.heap.size (Nat.le_refl _) #[.int .i64 0, .string ⟨#[]⟩, .string ⟨#[]⟩, .int .i64 0, .int .i64 0]
            generalize wr.setRow w.heap.size #[.int .i64 0, .string ⟨#[]⟩, .string ⟨#[]⟩, .int .i64 0, .int .i64 0] = w2 at q0 q1 q2 q3 q4 hB ⊢
            exact bodyPost_ret (v := .tuple #[.agg #[.int .i64 0, .string ⟨#[]⟩, .string ⟨#[]⟩, .int .i64 0, .int .i64 0], .bool false]) (by simp [results, Tryd.results11, go_sem, q0, q1, q2, q3, q4]) rfl ⟨rfl, hB⟩
end Go.Proofs.YtimhjmeebahdaaaDoor
