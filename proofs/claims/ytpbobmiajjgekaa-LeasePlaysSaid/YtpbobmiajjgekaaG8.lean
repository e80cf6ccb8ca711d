/- Lz, Keys, Lz2: texts of this seat, one behind the other. -/
import Derived.Test.YtpbobmiajjgekaaG6
import Derived.Test.YtpbobmiajjgekaaG7
import Derived.Shelf.SlIter.Nil
import Derived.Shelf.SortM.Plain
import Derived.Shelf.SortM.SortNone
import Derived.Ground.GgzProg
import Derived.Ground.SlgmProg
import Derived.Test.YtpbobmiajjgekaaProg
/- The book of leases in memory; moment, span, until, at, find: their contracts. -/
namespace Go.Proofs.Ytpbobmiajjgekaa
set_option linter.unusedVariables false
set_option maxRecDepth 100000
set_option linter.unusedSimpArgs false
open Go.RowKit

/-- When a lease may end. -/
structure TlL (x : Ls) : Prop where
  lo : 0 ≤ x.till
  hi : x.till ≤ 1101659111424
  hd : x.held = true → x.till ≤ 1100585369600
/-- A book that is right. -/
structure Gb (g most : Int) (b : Bo) : Prop where
  up : UpL b.l
  few : b.l.length ≤ 64
  nm : ∀ x ∈ b.l, x.name.size ≤ 20
  tl : ∀ x ∈ b.l, TlL x
  g1 : 1 ≤ g
  g2 : g ≤ 1073741824
  m1 : 1 ≤ most
  m2 : most ≤ 1073741824
  nx : 1 ≤ b.nx
abbrev lzc (g most nx : Int) (mb : Nat) : Array Value := #[.int .i64 g, .int .i64 most, .int .i64 nx, .map (some mb)]
/-- At gb lies a book, its map at mb, the lease of each name at ad. -/
structure Lz (u : World) (gb mb : Nat) (ad : ByteArray → Nat) (g most : Int) (b : Bo) : Prop where
  blk : Bk u gb 60 (lzc g most b.nx mb)
  mp : Ml u mb (b.l.map fun x => (x.name, ad x.name))
  each : ∀ x ∈ b.l, Bk u (ad x.name) 32 (lsc x)
  ok : Gb g most b
/-- Its blocks. -/
def ftL (gb mb : Nat) (ad : ByteArray → Nat) (b : Bo) : List Nat := gb :: mb :: b.l.map fun x => ad x.name
section
variable {u u' : World} {gb mb : Nat} {ad : ByteArray → Nat} {g most : Int} {b : Bo}
theorem mem_ftL {k : Nat} : k ∈ ftL gb mb ad b ↔ k = gb ∨ k = mb ∨ ∃ x ∈ b.l, ad x.name = k := by
  unfold ftL
  simp only [List.mem_cons, List.mem_map]
theorem Lz.ke {L : List Nat} (h : Lz u gb mb ad g most b) (k : Ke L u u') (hL : ∀ y ∈ ftL gb mb ad b, y ∉ L) : Lz u' gb mb ad g most b :=
  ⟨h.blk.ke k (hL _ (mem_ftL.2 (.inl rfl))), h.mp.ke k (hL _ (mem_ftL.2 (.inr (.inl rfl)))), fun x hx => (h.each x hx).ke k (hL _ (mem_ftL.2 (.inr (.inr ⟨x, hx, rfl⟩)))), h.ok⟩
theorem Lz.on (h : Lz u gb mb ad g most b) (hb : Below u.heap.size u u') : Lz u' gb mb ad g most b := h.ke (Ke.of hb) (fun _ _ hx => by cases hx)
theorem Lz.lt (h : Lz u gb mb ad g most b) : ∀ y ∈ ftL gb mb ad b, y < u.heap.size := by
  intro y hy
  rcases mem_ftL.1 hy with rfl | rfl | ⟨x, hx, rfl⟩
  · exact h.blk.lt
  · exact h.mp.lt
  · exact (h.each x hx).lt
/-- Two leases lie apart. -/
theorem Lz.apart (h : Lz u gb mb ad g most b) {x y : Ls} (hx : x ∈ b.l) (hy : y ∈ b.l) (e : ad x.name = ad y.name) : x = y := by
  have h1 := h.each x hx
  have h2 := h.each y hy
  rw [e] at h1
  have h3 : u.heap[ad y.name]? = some (.cells (lsc x) 32 (0, 0)) := h1
  have h4 : u.heap[ad y.name]? = some (.cells (lsc y) 32 (0, 0)) := h2
  rw [h3] at h4
  obtain ⟨a1, a2, a3, a4, a5, a6⟩ := x
  obtain ⟨b1, b2, b3, b4, b5, b6⟩ := y
  simp at h4
  obtain ⟨rfl, rfl, rfl, rfl, rfl, rfl⟩ := h4
  rfl
theorem Lz.notBook (h : Lz u gb mb ad g most b) {x : Ls} (hx : x ∈ b.l) : ad x.name ≠ gb := by
  intro e
  have h1 := h.each x hx
  rw [e] at h1
  have h3 : u.heap[gb]? = some (.cells (lsc x) 32 (0, 0)) := h1
  have h4 : u.heap[gb]? = some (.cells (lzc g most b.nx mb) 60 (0, 0)) := h.blk
  rw [h3] at h4
  simp at h4
theorem Lz.notMap (h : Lz u gb mb ad g most b) {x : Ls} (hx : x ∈ b.l) : ad x.name ≠ mb := by
  intro e
  have h1 := h.each x hx
  rw [e] at h1
  obtain ⟨es, ck, hm⟩ := h.mp.block
  have h3 : u.heap[mb]? = some (.cells (lsc x) 32 (0, 0)) := h1
  rw [h3] at hm
  cases hm
theorem Lz.mapBook (h : Lz u gb mb ad g most b) : mb ≠ gb := by
  intro e
  obtain ⟨es, ck, hm⟩ := h.mp.block
  rw [e] at hm
  have h4 : u.heap[gb]? = some (.cells (lzc g most b.nx mb) 60 (0, 0)) := h.blk
  rw [h4] at hm
  cases hm
end
/-- What a lease is at a time. -/
def stI (g : Int) (x : Ls) (now : Int) : Int := if heL x now = true then 2 else if kpL g x now = true then 1 else 0
theorem stI_held {g : Int} {x : Ls} {now : Int} : stI g x now = 2 ↔ heL x now = true := by
  unfold stI
  split
  · simp [*]
  · split <;> simp [*]
theorem stI_free {g : Int} {x : Ls} {now : Int} : stI g x now = 0 ↔ (heL x now || kpL g x now) = false := by
  unfold stI
  cases heL x now <;> cases kpL g x now <;> simp
set_option maxHeartbeats 400000 in
theorem lspan_ok (n : Int) (w : World) : Calls Try.prog 33 #[.int .i64 n] w fun e w' => e = .returned (.bool (timB n)) ∧ w' = w := by
  unfold timB
  by_cases h1 : 1 ≤ n
  · have h2 : n ≥ 1 := h1
    go_enter Try.func33, Try.ntmps33
    go_wp2
    go_ret
    exact ⟨by simp [h1], rfl⟩
  · have h2 : decide (1 ≤ n) = false := decide_eq_false h1
    have h3 : decide (n ≥ 1) = false := decide_eq_false h1
    go_enter Try.func33, Try.ntmps33
    go_wp2
    go_ret
    exact ⟨by simp [h1], rfl⟩
set_option maxHeartbeats 400000 in
theorem lmoment_ok (n : Int) (w : World) : Calls Try.prog 35 #[.int .i64 n] w fun e w' => e = .returned (.bool (clkB n)) ∧ w' = w := by
  unfold clkB
  by_cases h1 : 0 ≤ n
  · have h2 : n ≥ 0 := h1
    go_enter Try.func35, Try.ntmps35
    go_wp2
    go_ret
    exact ⟨by simp [h1], rfl⟩
  · have h2 : decide (0 ≤ n) = false := decide_eq_false h1
    have h3 : decide (n ≥ 0) = false := decide_eq_false h1
    go_enter Try.func35, Try.ntmps35
    go_wp2
    go_ret
    exact ⟨by simp [h1], rfl⟩
set_option maxHeartbeats 1000000 in
theorem luntil_ok (u : World) (gb mb : Nat) (g nx : Int) (N M D Q S : Nat) (h : Bk u gb 60 (lzc g (M : Int) nx mb)) (hQ : min (D : Int) (M : Int) = (Q : Int)) (hS : (N : Int) + (Q : Int) = (S : Int)) (hs : S ≤ 9223372036854775807) :
    Calls Try.prog 37 #[.pointer (some ⟨gb, 0, none⟩), .int .i64 (N : Int), .int .i64 (D : Int)] u fun e u' => e = .returned (.int .i64 (S : Int)) ∧ u' = u := by
  have e1 : u.cell? ⟨gb, 1, none⟩ = some (.int .i64 (M : Int)) := h.cell 1
  obtain ⟨hw, hw3⟩ := iwrap ((N : Int) + (Q : Int)) S hS hs
  clear h hS
  go_enter Try.func37, Try.ntmps37
  go_wp2
  all_goals (go_ret; exact ⟨rfl, rfl⟩)
set_option maxHeartbeats 1000000 in
theorem lat_ok (u : World) (gb mb a : Nat) (g most nx : Int) (x : Ls) (now : Int) (h : Bk u gb 60 (lzc g most nx mb)) (hx : Bk u a 32 (lsc x)) (ht : TlL x) (hg : 0 ≤ g) (hg2 : g ≤ 1073741824) :
    Calls Try.prog 45 #[.pointer (some ⟨gb, 0, none⟩), .pointer (some ⟨a, 0, none⟩), .int .i64 now] u fun e u' => e = .returned (.int .i64 (stI g x now)) ∧ u' = u := by
  obtain ⟨xn, xt, xc, xe, xu, xh⟩ := x
  obtain ⟨hx0, hx2, _⟩ := ht
  dsimp only at hx0 hx2
  have c4 : u.cell? ⟨a, 4, none⟩ = some (.int .i64 xu) := hx.cell 4
  have c5 : u.cell? ⟨a, 5, none⟩ = some (.bool xh) := hx.cell 5
  have e0 : u.cell? ⟨gb, 0, none⟩ = some (.int .i64 g) := h.cell 0
  obtain ⟨G, rfl⟩ := Int.eq_ofNat_of_zero_le hg
  obtain ⟨U, rfl⟩ := Int.eq_ofNat_of_zero_le hx0
  obtain ⟨S, hS⟩ : ∃ S : Nat, (U : Int) + (G : Int) = (S : Int) := ⟨U + G, by omega⟩
  have hw := (iwrap ((U : Int) + (G : Int)) S hS (by omega)).1
  clear h hx hg hg2 hx0 hx2
  cases xh with
  | false =>
    clear hw hS
    by_cases h3 : now < (U : Int)
    · have HR := Lib.hid (show stI (G : Int) ⟨xn, xt, xc, xe, U, false⟩ now = 1 by simp [stI, heL, kpL, h3])
      go_enter Try.func45, Try.ntmps45
      go_wp2
      go_ret
      exact ⟨by rw [HR.out]; rfl, rfl⟩
    · have h4 : decide (now < (U : Int)) = false := decide_eq_false h3
      have HR := Lib.hid (show stI (G : Int) ⟨xn, xt, xc, xe, U, false⟩ now = 0 by simp [stI, heL, kpL, h3])
      go_enter Try.func45, Try.ntmps45
      go_wp2
      go_ret
      exact ⟨by rw [HR.out]; rfl, rfl⟩
  | true =>
    by_cases h3 : now < (U : Int)
    · clear hw hS
      have HR := Lib.hid (show stI (G : Int) ⟨xn, xt, xc, xe, U, true⟩ now = 2 by simp [stI, heL, kpL, h3])
      go_enter Try.func45, Try.ntmps45
      go_wp2
      go_ret
      exact ⟨by rw [HR.out]; rfl, rfl⟩
    · have h4 : decide (now < (U : Int)) = false := decide_eq_false h3
      by_cases h5 : now < (S : Int)
      · have HR := Lib.hid (show stI (G : Int) ⟨xn, xt, xc, xe, U, true⟩ now = 1 by
          simp only [stI, heL, kpL, if_true, hS, h4, h5, Bool.and_false, Bool.false_eq_true, if_false]
          rw [decide_eq_true (show (U : Int) ≤ now by omega)]; simp)
        clear hS
        go_enter Try.func45, Try.ntmps45
        go_wp2
        go_ret
        exact ⟨by rw [HR.out]; rfl, rfl⟩
      · have h6 : decide (now < (S : Int)) = false := decide_eq_false h5
        have HR := Lib.hid (show stI (G : Int) ⟨xn, xt, xc, xe, U, true⟩ now = 0 by
          simp only [stI, heL, kpL, if_true, hS, h4, h6, Bool.and_false, Bool.false_eq_true, if_false])
        clear hS
        go_enter Try.func45, Try.ntmps45
        go_wp2
        go_ret
        exact ⟨by rw [HR.out]; rfl, rfl⟩
set_option maxHeartbeats 1000000 in
/-- find, of a name that there is not. -/
theorem lfind_none {u : World} {gb mb : Nat} {ad : ByteArray → Nat} {g most : Int} {b : Bo} (h : Lz u gb mb ad g most b) (s : ByteArray) (now : Int) (hs : s.size ≤ 140737488355328) (hn : fnL s b.l = none) :
    Calls Try.prog 51 #[.pointer (some ⟨gb, 0, none⟩), .string s, .int .i64 now] u fun e u' => e = .returned (.tuple #[.pointer none, .int .i64 0]) ∧ u' = u := by
  have c3 : u.cell? ⟨gb, 3, none⟩ = some (.map (some mb)) := h.blk.cell 3
  have hl := h.mp.miss hs (by
    intro x hx e
    obtain ⟨y, hy, rfl⟩ := List.mem_map.1 hx
    have := List.find?_eq_none.1 hn y hy
    exact this ((nmE_iff _ _).2 e))
  clear h hn
  go_enter Try.func51, Try.ntmps51
  go_wp2
  go_ret2
  exact ⟨rfl, rfl⟩
set_option maxHeartbeats 1000000 in
theorem lfind_some {u : World} {gb mb : Nat} {ad : ByteArray → Nat} {g most : Int} {b : Bo} (h : Lz u gb mb ad g most b) (s : ByteArray) (now : Int) (x : Ls) (hn : fnL s b.l = some x) :
    Calls Try.prog 51 #[.pointer (some ⟨gb, 0, none⟩), .string s, .int .i64 now] u fun e u' => e = .returned (.tuple #[.pointer (some ⟨ad s, 0, none⟩), .int .i64 (stI g x now)]) ∧ u' = u := by
  have c3 : u.cell? ⟨gb, 3, none⟩ = some (.map (some mb)) := h.blk.cell 3
  obtain ⟨he, hx⟩ := fn_name hn
  subst he
  have hl := h.mp.hit (s := x.name) (b := ad x.name) (List.mem_map.2 ⟨x, hx, rfl⟩)
  have HA := Lib.hid (lat_ok u gb mb (ad x.name) g most b.nx x now h.blk (h.each x hx) (h.ok.tl x hx) (by have := h.ok.g1; omega) h.ok.g2)
  clear h hn hx
  go_enter Try.func51, Try.ntmps51
  go_wp2_with (go_at_call 45; (with_reducible refine HA.out.mono ?_); rintro e u2 ⟨rfl, hu⟩; rw [hu]; clear hu)
  go_ret2
  exact ⟨rfl, rfl⟩
end Go.Proofs.Ytpbobmiajjgekaa

/- Contracts of slices.Sorted and maps.Keys over this program, laid by the kit's own command. (Written by gen_keys.py.) -/
namespace Go.Proofs
open Go.RowKit Go.Maps Go.Sort Go.Shelf
def Try.keys56_ren : Go.Shelf.Ren := ⟨fun | 7 => 56 | 10 => 61 | n => n, fun | 23 => 58 | 26 => 9 | 3 => 61 | 28 => 83 | 0 => 0 | 27 => 82 | 33 => 52 | 4 => 4 | n => n, fun | n => n⟩
theorem Try.keys56 : Go.Proofs.SlLaysZ.n7 Try.prog Try.keys56_ren := {
  mixed := by kernel_rfl
  f7 := ⟨Try.f56.name, by decide, Try.func56.trans (congrArg some (by kernel_rfl))⟩
  f10 := ⟨Try.f61.name, by decide, Try.func61.trans (congrArg some (by kernel_rfl))⟩
  t0 := Try.underlying0
  a0 := Try.isAgg0
  z0 := Try.sizeOf0
  v0 := Try.zeroValue0
  t4 := Try.underlying4
  a4 := Try.isAgg4
  z4 := Try.sizeOf4
  v4 := Try.zeroValue4
  t23 := Try.underlying58
  a23 := Try.isAgg58
  z23 := Try.sizeOf58
  v23 := Try.zeroValue58
  t26 := Try.underlying9
  a26 := Try.isAgg9
  z26 := Try.sizeOf9
  v26 := Try.zeroValue9
  t27 := Try.underlying82
  a27 := Try.isAgg82
  z27 := Try.sizeOf82
  v27 := Try.zeroValue82
  t28 := Try.underlying83
  a28 := Try.isAgg83
  z28 := Try.sizeOf83
  v28 := Try.zeroValue83
  t33 := Try.underlying52
  a33 := Try.isAgg52
  z33 := Try.sizeOf52
  v33 := Try.zeroValue52 }
def Try.sorted55_ren : Go.Shelf.Ren := ⟨fun | 6 => 55 | 8 => 59 | 9 => 60 | 11 => 62 | 13 => 64 | 12 => 63 | 23 => 74 | 24 => 75 | 14 => 65 | 15 => 66 | 16 => 67 | 17 => 68 | 18 => 69 | 19 => 70 | 20 => 71 | 21 => 72 | 22 => 73 | 25 => 76 | 26 => 77 | 27 => 78 | 28 => 79 | 29 => 80 | 30 => 81 | 31 => 82 | n => n, fun | 26 => 9 | 28 => 83 | 24 => 80 | 0 => 0 | 3 => 3 | 37 => 92 | 48 => 103 | 50 => 105 | 4 => 4 | 40 => 95 | 39 => 94 | 45 => 100 | 5 => 5 | 9 => 9 | 51 => 106 | 55 => 110 | 57 => 112 | 58 => 113 | 33 => 52 | n => n, fun | n => n⟩
theorem Try.sorted55 : Go.Proofs.SlLaysZ.n6 Try.prog Try.sorted55_ren := {
  mixed := by kernel_rfl
  f6 := ⟨Try.f55.name, by decide, Try.func55.trans (congrArg some (by kernel_rfl))⟩
  f8 := ⟨Try.f59.name, by decide, Try.func59.trans (congrArg some (by kernel_rfl))⟩
  f11 := ⟨Try.f62.name, by decide, Try.func62.trans (congrArg some (by kernel_rfl))⟩
  t0 := Try.underlying0
  a0 := Try.isAgg0
  z0 := Try.sizeOf0
  v0 := Try.zeroValue0
  t24 := Try.underlying80
  a24 := Try.isAgg80
  z24 := Try.sizeOf80
  v24 := Try.zeroValue80
  t26 := Try.underlying9
  a26 := Try.isAgg9
  z26 := Try.sizeOf9
  v26 := Try.zeroValue9
  t28 := Try.underlying83
  a28 := Try.isAgg83
  z28 := Try.sizeOf83
  v28 := Try.zeroValue83
  i26 := by kernel_rfl }
def Try.sort60_ren : Go.Shelf.Ren := ⟨fun | 6 => 60 | 8 => 64 | 9 => 63 | 19 => 74 | 20 => 75 | 21 => 65 | 22 => 66 | 23 => 67 | 24 => 68 | 25 => 69 | 26 => 70 | 27 => 71 | 28 => 72 | 29 => 73 | 36 => 76 | 31 => 77 | 32 => 78 | 37 => 79 | 38 => 80 | 39 => 81 | 41 => 82 | n => n, fun | 27 => 80 | 29 => 9 | 3 => 3 | 32 => 92 | 26 => 80 | 0 => 0 | 44 => 103 | 46 => 105 | 4 => 4 | 36 => 95 | 35 => 94 | 41 => 100 | 5 => 5 | 9 => 9 | 53 => 106 | 57 => 110 | 63 => 112 | 64 => 113 | n => n, fun | n => n⟩
theorem Try.sort60 : Go.Proofs.SlLaysM.n6 Try.prog Try.sort60_ren := {
  mixed := by kernel_rfl
  f6 := ⟨Try.f60.name, by decide, Try.func60.trans (congrArg some (by kernel_rfl))⟩
  f8 := Try.func64.trans (congrArg some (by kernel_rfl))
  f9 := ⟨Try.f63.name, by decide, Try.func63.trans (congrArg some (by kernel_rfl))⟩
  f19 := Try.func74.trans (congrArg some (by kernel_rfl))
  f20 := Try.func75.trans (congrArg some (by kernel_rfl))
  f21 := ⟨Try.f65.name, by decide, Try.func65.trans (congrArg some (by kernel_rfl))⟩
  f22 := ⟨Try.f66.name, by decide, Try.func66.trans (congrArg some (by kernel_rfl))⟩
  f23 := ⟨Try.f67.name, by decide, Try.func67.trans (congrArg some (by kernel_rfl))⟩
  f24 := ⟨Try.f68.name, by decide, Try.func68.trans (congrArg some (by kernel_rfl))⟩
  f25 := ⟨Try.f69.name, by decide, Try.func69.trans (congrArg some (by kernel_rfl))⟩
  f26 := ⟨Try.f70.name, by decide, Try.func70.trans (congrArg some (by kernel_rfl))⟩
  f27 := ⟨Try.f71.name, by decide, Try.func71.trans (congrArg some (by kernel_rfl))⟩
  f28 := ⟨Try.f72.name, by decide, Try.func72.trans (congrArg some (by kernel_rfl))⟩
  f29 := ⟨Try.f73.name, by decide, Try.func73.trans (congrArg some (by kernel_rfl))⟩
  f31 := Try.func77.trans (congrArg some (by kernel_rfl))
  f32 := Try.func78.trans (congrArg some (by kernel_rfl))
  f36 := ⟨Try.f76.name, by decide, Try.func76.trans (congrArg some (by kernel_rfl))⟩
  f37 := ⟨Try.f79.name, by decide, Try.func79.trans (congrArg some (by kernel_rfl))⟩
  f38 := ⟨Try.f80.name, by decide, Try.func80.trans (congrArg some (by kernel_rfl))⟩
  f39 := ⟨Try.f81.name, by decide, Try.func81.trans (congrArg some (by kernel_rfl))⟩
  f41 := ⟨Try.f82.name, by decide, Try.func82.trans (congrArg some (by kernel_rfl))⟩
  t0 := Try.underlying0
  a0 := Try.isAgg0
  z0 := Try.sizeOf0
  v0 := Try.zeroValue0
  t3 := Try.underlying3
  a3 := Try.isAgg3
  z3 := Try.sizeOf3
  v3 := Try.zeroValue3
  t4 := Try.underlying4
  a4 := Try.isAgg4
  z4 := Try.sizeOf4
  v4 := Try.zeroValue4
  t5 := Try.underlying5
  a5 := Try.isAgg5
  z5 := Try.sizeOf5
  v5 := Try.zeroValue5
  t9 := Try.underlying9
  a9 := Try.isAgg9
  z9 := Try.sizeOf9
  v9 := Try.zeroValue9
  t26 := Try.underlying80
  a26 := Try.isAgg80
  z26 := Try.sizeOf80
  v26 := Try.zeroValue80
  t27 := Try.underlying80
  a27 := Try.isAgg80
  z27 := Try.sizeOf80
  v27 := Try.zeroValue80
  t29 := Try.underlying9
  a29 := Try.isAgg9
  z29 := Try.sizeOf9
  v29 := Try.zeroValue9
  t32 := Try.underlying92
  a32 := Try.isAgg92
  z32 := Try.sizeOf92
  v32 := Try.zeroValue92
  t35 := Try.underlying94
  a35 := Try.isAgg94
  z35 := Try.sizeOf94
  v35 := Try.zeroValue94
  t36 := Try.underlying95
  a36 := Try.isAgg95
  z36 := Try.sizeOf95
  v36 := Try.zeroValue95
  t41 := Try.underlying100
  a41 := Try.isAgg100
  z41 := Try.sizeOf100
  v41 := Try.zeroValue100
  t44 := Try.underlying103
  a44 := Try.isAgg103
  z44 := Try.sizeOf103
  v44 := Try.zeroValue103
  t46 := Try.underlying105
  a46 := Try.isAgg105
  z46 := Try.sizeOf105
  v46 := Try.zeroValue105
  t53 := Try.underlying106
  a53 := Try.isAgg106
  z53 := Try.sizeOf106
  v53 := Try.zeroValue106
  t57 := Try.underlying110
  a57 := Try.isAgg110
  z57 := Try.sizeOf110
  v57 := Try.zeroValue110
  t63 := Try.underlying112
  a63 := Try.isAgg112
  z63 := Try.sizeOf112
  v63 := Try.zeroValue112
  t64 := Try.underlying113
  a64 := Try.isAgg113
  z64 := Try.sizeOf113
  v64 := Try.zeroValue113 }
theorem Try.sorts55 (m : Nat) : AnyZ.SortsIn Try.prog Try.sorted55_ren Fence.wide m :=
  ⟨fun blk off cap ss W hH hblk hsz => callsIn_wide.2 (AnyM.slices_Sort_string Try.sort60 blk off cap ss W hH hblk hsz),
   fun p cap W => callsIn_wide.2 (AnyM.slices_Sort_string_none Try.sort60 p cap W)⟩

theorem Try.maps_Keys_56 (mb : Option Nat) (W : World) : CallsIn Fence.wide 5 Try.prog 56 #[.map mb] W fun e w' => e = .returned (.func (.func 61) #[] #[.pointer (some ⟨W.heap.size, 0, none⟩)]) ∧ w' = W.alloc (.cells #[.map mb] 58) :=
  AnyZ.keys_in Try.keys56 Fence.wide 5 trivial rfl mb W

set_option maxHeartbeats 1000000 in
theorem Try.slices_Sorted_keys_55_56 {H : Type} (b nn : Nat) (D0 : DataW H) (R : Value → Option (DataW H × List MemPlace)) (w : World) (hown : w.ownsMap Try.prog 9 R b nn D0) (hmax : Maps.size D0 ≤ maxLen) (hbytes : Maps.size D0 * 16 ≤ 140737488355328) :
    CallsIn Fence.wide 5 Try.prog 55 #[.func (.func 61) #[] #[.pointer (some ⟨w.heap.size, 0, none⟩)]] (w.alloc (.cells #[.map (some b)] 58)) fun e w' => ∃ (v : Value) (ss : List (List UInt8)), e = .returned v ∧ ss.Perm (strKeys D0) ∧
      w'.ownsRow (w.alloc (.cells #[.map (some b)] 58)).heap.size 9 1 v ss.length ((ss.mergeSort (fun x y => decide (x ≤ y))).map encStr) ∧ (v = .slice none 0 0 ↔ ss = []) ∧ Below (w.alloc (.cells #[.map (some b)] 58)).heap.size (w.alloc (.cells #[.map (some b)] 58)) w' := by
  have hbl := hown.lt
  have hseq : SeqGives Fence.wide 2 Try.prog 61 #[.pointer (some ⟨w.heap.size, 0, none⟩)] encStr (fun ss => ss.Perm (strKeys D0)) (Maps.size D0) (w.alloc (.cells #[.map (some b)] 58)) :=
    AnyZ.keys_gives (ρ := Try.keys56_ren) { Try.keys56 with } Fence.wide _ trivial rfl (by omega) w.heap.size b nn D0 _ (by simp) (by simp) (by
      obtain ⟨es, clock, hb, Ft, hs, hD⟩ := hown
      exact ⟨es, clock, (Below.heap_alloc _ _ b hbl).trans hb, Ft, hs, hD⟩)
  exact AnyZ.sorted_in Try.sorted55 Fence.wide 5 trivial trivial trivial trivial rfl (by omega) (Try.sorts55 _) (enters_of Try.func60 (by kernel_rfl) rfl) 61 #[.pointer (some ⟨w.heap.size, 0, none⟩)] trivial (enters_of Try.func61 (by kernel_rfl) rfl) _ _ hmax hbytes _ hseq

set_option maxHeartbeats 1000000 in
theorem Try.slices_Sorted_keys_nil_55_56 (w : World) :
    CallsIn Fence.wide 5 Try.prog 55 #[.func (.func 61) #[] #[.pointer (some ⟨w.heap.size, 0, none⟩)]] (w.alloc (.cells #[.map none] 58)) fun e w' => ∃ (v : Value) (ss : List (List UInt8)), e = .returned v ∧ ss = [] ∧
      w'.ownsRow (w.alloc (.cells #[.map none] 58)).heap.size 9 1 v ss.length ((ss.mergeSort (fun x y => decide (x ≤ y))).map encStr) ∧ (v = .slice none 0 0 ↔ ss = []) ∧ Below (w.alloc (.cells #[.map none] 58)).heap.size (w.alloc (.cells #[.map none] 58)) w' := by
  have hseq : SeqGives Fence.wide 2 Try.prog 61 #[.pointer (some ⟨w.heap.size, 0, none⟩)] encStr (fun ss : List (List UInt8) => ss = []) 0 (w.alloc (.cells #[.map none] 58)) :=
    AnyZ.keys_gives_nil (ρ := Try.keys56_ren) { Try.keys56 with } Fence.wide _ trivial rfl w.heap.size _ (by simp) (by simp)
  exact AnyZ.sorted_in Try.sorted55 Fence.wide 5 trivial trivial trivial trivial rfl (by omega) (Try.sorts55 _) (enters_of Try.func60 (by kernel_rfl) rfl) 61 #[.pointer (some ⟨w.heap.size, 0, none⟩)] trivial (enters_of Try.func61 (by kernel_rfl) rfl) _ 0 (Nat.zero_le _) (by omega) _ hseq
end Go.Proofs

/- The names of a book, in order; rows of pointers to leases. (Written by gen_lz2.py.) -/
namespace Go.Proofs.Ytpbobmiajjgekaa
set_option linter.unusedVariables false
set_option maxRecDepth 100000
set_option linter.unusedSimpArgs false
open Go.RowKit Go.Maps Go.Sort

abbrev pcs (a : Nat) : Array Value := #[.pointer (some ⟨a, 0, none⟩)]
theorem roP : Ro Try.prog 69 61 1 8 pcs := ⟨Try.underlying69, (by
  obtain ⟨i, h1, h2, h3, h4⟩ := info_parts (show (Try.prog.info? 61).map (fun i => (i.zero, i.size, i.bytes)) = some (some (.pointer none), 1, 8) by kernel_rfl)
  exact ⟨i, _, h1, h2, h3, h4, rfl⟩), by omega, fun _ => rfl, (fun x u hu => by simp at hu; rcases hu with rfl; rfl), by omega⟩
abbrev OP (w : World) (B : Nat) (A : Option Addr) (c : Nat) (l : List Nat) : Prop := Ow 61 1 pcs w B A c l
/-- One pointer of a row. -/
theorem rowP {w : World} {A : Option Addr} {l : List Nat} (h : Rw 1 pcs w A l) (i : Nat) (hi : i < l.length) :
    ∃ b o x, A = some ⟨b, o, none⟩ ∧ l[i]? = some x ∧ ∀ u, Below w.heap.size w u → u.cell? ⟨b, o + i, none⟩ = some (.pointer (some ⟨x, 0, none⟩)) := by
  obtain ⟨b, o, x, h1, h2, h3⟩ := Rw.at_ h i hi
  exact ⟨b, o, x, h1, h2, fun u hb => by have := h3 u hb 0 (by omega); rw [Nat.mul_one] at this; exact this⟩
/-- The slice at A reads as those texts, in every later world. -/
def Rst (w : World) (A : Option Addr) (l : List ByteArray) : Prop := l = [] ∨ ∃ b o, A = some ⟨b, o, none⟩ ∧ b < w.heap.size ∧ ∀ i, (h : i < l.length) → w.cell? ⟨b, o + i, none⟩ = some (.string l[i])
theorem Rst.at_ {w : World} {A : Option Addr} {l : List ByteArray} (h : Rst w A l) (i : Nat) (hi : i < l.length) :
    ∃ b o x, A = some ⟨b, o, none⟩ ∧ l[i]? = some x ∧ ∀ u, Below w.heap.size w u → u.cell? ⟨b, o + i, none⟩ = some (.string x) := by
  rcases h with h | ⟨b, o, e, hlt, hc⟩
  · subst h; simp at hi
  · exact ⟨b, o, l[i], e, List.getElem?_eq_getElem hi, fun u hb => (hb.cell (p := ⟨b, o + i, none⟩) hlt).trans (hc i hi)⟩
theorem lkeys_ok (mb : Nat) (W : World) : Calls Try.prog 56 #[.map (some mb)] W fun e w' => e = .returned (.func (.func 61) #[] #[.pointer (some ⟨W.heap.size, 0, none⟩)]) ∧ w' = W.alloc (.cells #[.map (some mb)] 58) :=
  (callsIn_wide (n := 5)).1 (Try.maps_Keys_56 (some mb) W)
/-- What Sorted tells of a book's names. -/
def SrP (l : List ByteArray) (W : World) (e : Ending) (w' : World) : Prop := ∃ A c, e = .returned (.slice A l.length c) ∧ Rst w' A l ∧ Below W.heap.size W w' ∧ l.length ≤ c ∧ c ≤ 9223372036854775807
theorem lsorted_ok {u : World} {gb mb : Nat} {ad : ByteArray → Nat} {g most : Int} {b : Bo} (h : Lz u gb mb ad g most b) :
    Calls Try.prog 55 #[.func (.func 61) #[] #[.pointer (some ⟨u.heap.size, 0, none⟩)]] (u.alloc (.cells #[.map (some mb)] 58)) (SrP (b.l.map (·.name)) (u.alloc (.cells #[.map (some mb)] 58))) := by
  obtain ⟨h0, h1, h2, D, h3, h5, h6⟩ := h.mp
  have hsz := ml_size h3 h1 h5
  rw [List.length_map] at hsz
  have hf := h.ok.few
  have hp := ml_perm h3 h1 h5
  refine ((callsIn_wide (n := 5)).1 (Try.slices_Sorted_keys_55_56 mb _ D lRP u h3 (by unfold maxLen; omega) (by omega))).mono fun e w' hh => ?_
  obtain ⟨v, ss, rfl, hss, hrow, hnil, hb⟩ := hh
  have hup : (b.l.map (·.name)).Pairwise fun a b => ltS a b = true := List.pairwise_map.2 h.ok.up
  have hpp : ss.Perm ((b.l.map (·.name)).map fun x => x.data.toList) := by
    refine hss.trans (hp.symm.trans ?_)
    rw [List.map_map, List.map_map]
    exact List.Perm.refl _
  have hsort := sorted_names hup hpp
  have hlen : ss.length = (b.l.map (·.name)).length := by rw [hpp.length_eq, List.length_map]
  rw [hsort, List.map_map] at hrow
  have hfun : ((b.l.map (·.name)).map (encStr ∘ fun x : ByteArray => x.data.toList)) = (b.l.map (·.name)).map Value.string := by
    refine List.map_congr_left fun x _ => ?_
    show Value.string ⟨x.data.toList.toArray⟩ = _
    rw [bmk_toList]
  rw [hfun, hlen] at hrow
  obtain ⟨L, hL⟩ : ∃ L, b.l.map (·.name) = L := ⟨_, rfl⟩
  rw [hL] at hrow ⊢
  by_cases hz : L = []
  · subst hz
    have hv : v = .slice none 0 0 := hnil.2 (by
      rw [hL] at hlen
      exact List.eq_nil_of_length_eq_zero hlen)
    subst hv
    exact ⟨none, 0, rfl, .inl rfl, hb, Nat.le_refl _, by omega⟩
  · have hpos : 0 < L.length := List.length_pos_iff.2 hz
    have hcap : ∃ g cap, v = .slice (some ⟨g, 0, none⟩) L.length cap ∧ L.length ≤ cap ∧ cap ≤ 9223372036854775807 := by
      rcases hrow.2 with ⟨_, h0⟩ | ⟨g, cap, cur, hv, _, _, hn, hm, _⟩
      · omega
      · unfold maxLen at hm
        exact ⟨g, cap, hv, by omega, by omega⟩
    obtain ⟨q, cap, rfl, hc1, hc2⟩ := hcap
    obtain ⟨q', cap', hv, hbb, hl⟩ := World.ownsRow.form hrow hpos
    injection hv with e1 _ _
    injection e1 with e1
    injection e1 with e1 _ _
    subst e1
    refine ⟨some ⟨q, 0, none⟩, cap, rfl, .inr ⟨q, 0, rfl, hl, fun i hi => ?_⟩, hb, hc1, hc2⟩
    have := World.ownsRow.cellAt hrow i (by omega)
    rw [Nat.zero_add, this]
    simp [hi]
end Go.Proofs.Ytpbobmiajjgekaa
