/- Sp, LzM, Lz4, Lz5: texts of this seat, one behind the other. -/
import Derived.Test.YtpbobmiajjgekaaG6
import Derived.Test.YtpbobmiajjgekaaLz3
import Derived.Test.YtpbobmiajjgekaaG7
/- Footprints: lists of blocks that may only grow by new ones. Nothing of the program is named here. -/
namespace Go.Proofs.Ytpbobmiajjgekaa
set_option linter.unusedVariables false
set_option maxRecDepth 100000
set_option linter.unusedSimpArgs false
open Go.RowKit

/-- From u to u' only the blocks G have turned; G' are these, and new ones. -/
structure Sp (u u' : World) (G G' : List Nat) : Prop where
  k : Ke G u u'
  g : ∀ y ∈ G', y ∈ G ∨ u.heap.size ≤ y
theorem Sp.refl (u : World) (G : List Nat) : Sp u u G G := ⟨Ke.refl _ _, fun _ h => .inl h⟩
theorem Sp.of {u u' : World} {G : List Nat} (h : Ke G u u') : Sp u u' G G := ⟨h, fun _ h => .inl h⟩
theorem Sp.trans {u v w : World} {G G' G'' : List Nat} (h : Sp u v G G') (k : Sp v w G' G'') : Sp u w G G'' :=
  ⟨⟨k.k.os.trans h.k.os, k.k.tape.trans h.k.tape, k.k.output.trans h.k.output, Nat.le_trans h.k.size k.k.size, fun i hi hG => (k.k.block i (Nat.lt_of_lt_of_le hi h.k.size) (fun hx => by
      rcases h.g i hx with e | e
      · exact hG e
      · omega)).trans (h.k.block i hi hG)⟩,
    fun y hy => by
      rcases k.g y hy with e | e
      · exact h.g y e
      · exact .inr (Nat.le_trans h.k.size e)⟩
theorem Ke.sp {u u' : World} {G : List Nat} (k : Ke [] u u') : Sp u u' G G := Sp.of k.nil
end Go.Proofs.Ytpbobmiajjgekaa

/- How a book turns: leases that are written anew, one more, one less. -/
namespace Go.Proofs.Ytpbobmiajjgekaa
set_option linter.unusedVariables false
set_option maxRecDepth 100000
set_option linter.unusedSimpArgs false
open Go.RowKit

theorem outK_map (s : ByteArray) (ad : ByteArray → Nat) (l : List Ls) : outK s (l.map fun x => (x.name, ad x.name)) = (drL s l).map fun x => (x.name, ad x.name) := by
  unfold outK drL
  rw [List.filter_map]
  rfl
section
variable {u u' : World} {gb mb : Nat} {ad : ByteArray → Nat} {g most : Int} {b : Bo}
/-- Leases are written anew, in their places. -/
theorem Lz.turn (h : Lz u gb mb ad g most b) (F : Ls → Ls) (hF : ∀ x, (F x).name = x.name) {L : List Nat} (k : Ke L u u') (hL : ∀ a ∈ L, ∃ x ∈ b.l, ad x.name = a) (hb : ∀ x ∈ b.l, Bk u' (ad x.name) 32 (lsc (F x))) (ht : ∀ x ∈ b.l, TlL (F x)) : Lz u' gb mb ad g most ⟨b.l.map F, b.nx⟩ := by
  refine ⟨h.blk.ke k (fun hx => ?_), ?_, fun x hx => ?_, map_up hF h.ok.up, by rw [List.length_map]; exact h.ok.few, fun x hx => ?_, fun x hx => ?_, h.ok.g1, h.ok.g2, h.ok.m1, h.ok.m2, h.ok.nx⟩
  · obtain ⟨x, hx, e⟩ := hL _ hx
    exact h.notBook hx e
  · have := h.mp.ke k (fun hx => by
      obtain ⟨x, hx, e⟩ := hL _ hx
      exact h.notMap hx e)
    rw [List.map_map]
    have e : ((fun x : Ls => (x.name, ad x.name)) ∘ F) = fun x => (x.name, ad x.name) := by funext x; simp [hF]
    rw [e]
    exact this
  · obtain ⟨y, hy, rfl⟩ := List.mem_map.1 hx
    rw [hF]
    exact hb y hy
  · obtain ⟨y, hy, rfl⟩ := List.mem_map.1 hx
    rw [hF]
    exact h.ok.nm y hy
  · obtain ⟨y, hy, rfl⟩ := List.mem_map.1 hx
    exact ht y hy
/-- Of one lease alone. -/
theorem Lz.turn1 (h : Lz u gb mb ad g most b) {y z : Ls} (hy : y ∈ b.l) (hz : z.name = y.name) (k : Ke [ad y.name] u u') (hb : Bk u' (ad y.name) 32 (lsc z)) (ht : TlL z) : Lz u' gb mb ad g most ⟨ptL z b.l, b.nx⟩ := by
  have hf : fnL z.name b.l = some y := by rw [hz]; exact fn_of_mem h.ok.up hy
  rw [ptL_map h.ok.up hf]
  refine h.turn (fun w => if nmE w.name z.name = true then z else w) (fun w => ?_) k (fun a ha => ⟨y, hy, (List.mem_singleton.1 ha).symm⟩) (fun w hw => ?_) (fun w hw => ?_)
  · try dsimp only
    split
    · rename_i e
      exact ((nmE_iff _ _).1 e).symm
    · rfl
  · try dsimp only
    split
    · rename_i e
      rw [(nmE_iff _ _).1 e, hz]
      exact hb
    · rename_i e
      refine (h.each w hw).ke k (fun hm => e ?_)
      rw [h.apart hw hy (List.mem_singleton.1 hm), hz]
      exact (nmE_iff _ _).2 rfl
  · try dsimp only
    split
    · exact ht
    · exact h.ok.tl w hw
/-- One less. -/
theorem Lz.del (h : Lz u gb mb ad g most b) (s : ByteArray) (k : Ke [mb] u u') (hm : Ml u' mb (outK s (b.l.map fun x => (x.name, ad x.name)))) : Lz u' gb mb ad g most ⟨drL s b.l, b.nx⟩ := by
  refine ⟨h.blk.ke k (fun hx => h.mapBook (List.mem_singleton.1 hx).symm), by rw [outK_map] at hm; exact hm, fun x hx => ?_, drL_up h.ok.up, Nat.le_trans (drL_len _ _) h.ok.few, fun x hx => h.ok.nm x (drL_mem.1 hx).1, fun x hx => h.ok.tl x (drL_mem.1 hx).1, h.ok.g1, h.ok.g2, h.ok.m1, h.ok.m2, h.ok.nx⟩
  exact (h.each x (drL_mem.1 hx).1).ke k (fun hk => h.notMap (drL_mem.1 hx).1 (List.mem_singleton.1 hk))
/-- Where the lease of s lies at a, and all others where they lay. -/
def adP (ad : ByteArray → Nat) (s : ByteArray) (a : Nat) : ByteArray → Nat := fun k => if nmE k s = true then a else ad k
theorem adP_same (ad : ByteArray → Nat) (s : ByteArray) (a : Nat) : adP ad s a s = a := by unfold adP; rw [if_pos ((nmE_iff _ _).2 rfl)]
theorem adP_other {ad : ByteArray → Nat} {s k : ByteArray} {a : Nat} (h : k ≠ s) : adP ad s a k = ad k := by unfold adP; rw [if_neg (fun e => h ((nmE_iff _ _).1 e))]
/-- One more, or anew, at a block of its own: the map and the next epoch turn. -/
theorem Lz.put (h : Lz u gb mb ad g most b) {x : Ls} {a : Nat} {n : Int} (k : Ke [gb, mb] u u') (hbk : Bk u' gb 60 (lzc g most n mb)) (hx : Bk u' a 32 (lsc x)) (hm : Ml u' mb ((x.name, a) :: outK x.name (b.l.map fun y => (y.name, ad y.name))))
    (hf : (ptL x b.l).length ≤ 64) (hn : x.name.size ≤ 20) (ht : TlL x) (h1 : 1 ≤ n) : Lz u' gb mb (adP ad x.name a) g most ⟨ptL x b.l, n⟩ := by
  have hp := ptL_perm (x := x) h.ok.up
  refine ⟨hbk, ?_, fun y hy => ?_, ptL_up h.ok.up, hf, fun y hy => ?_, fun y hy => ?_, h.ok.g1, h.ok.g2, h.ok.m1, h.ok.m2, h1⟩
  · refine hm.perm ?_
    have := (hp.map fun y => (y.name, adP ad x.name a y.name)).symm
    refine List.Perm.trans (List.Perm.of_eq ?_) this
    rw [List.map_cons, adP_same, outK_map]
    congr 1
    refine List.map_congr_left fun y hy => ?_
    rw [adP_other (drL_mem.1 hy).2]
  · rcases List.mem_cons.1 (hp.mem_iff.1 hy) with rfl | hy
    · rw [adP_same]; exact hx
    · obtain ⟨hy1, hy2⟩ := drL_mem.1 hy
      rw [adP_other hy2]
      exact (h.each y hy1).ke k (fun hk => by
        rcases List.mem_cons.1 hk with e | hk
        · exact h.notBook hy1 e
        · exact h.notMap hy1 (List.mem_singleton.1 hk))
  · rcases List.mem_cons.1 (hp.mem_iff.1 hy) with rfl | hy
    · exact hn
    · exact h.ok.nm y (drL_mem.1 hy).1
  · rcases List.mem_cons.1 (hp.mem_iff.1 hy) with rfl | hy
    · exact ht
    · exact h.ok.tl y (drL_mem.1 hy).1
/-- Which blocks are there, behind. -/
theorem ft_map {F : Ls → Ls} (hF : ∀ x, (F x).name = x.name) {n : Int} : ftL gb mb ad ⟨b.l.map F, n⟩ = ftL gb mb ad b := by
  unfold ftL
  rw [List.map_map]
  have e : ((fun x : Ls => ad x.name) ∘ F) = fun x => ad x.name := by funext x; simp [hF]
  rw [e]
theorem ft_del {s : ByteArray} {n : Int} : ∀ k ∈ ftL gb mb ad ⟨drL s b.l, n⟩, k ∈ ftL gb mb ad b := by
  intro k hk
  rcases mem_ftL.1 hk with e | e | ⟨x, hx, e⟩
  · exact mem_ftL.2 (.inl e)
  · exact mem_ftL.2 (.inr (.inl e))
  · exact mem_ftL.2 (.inr (.inr ⟨x, (drL_mem.1 hx).1, e⟩))
theorem ft_put (h : UpL b.l) {x : Ls} {a : Nat} {n : Int} : ∀ k ∈ ftL gb mb (adP ad x.name a) ⟨ptL x b.l, n⟩, k ∈ ftL gb mb ad b ∨ k = a := by
  intro k hk
  rcases mem_ftL.1 hk with e | e | ⟨y, hy, e⟩
  · exact .inl (mem_ftL.2 (.inl e))
  · exact .inl (mem_ftL.2 (.inr (.inl e)))
  · rcases List.mem_cons.1 ((ptL_perm (x := x) h).mem_iff.1 hy) with rfl | hy
    · rw [adP_same] at e
      exact .inr e.symm
    · obtain ⟨hy1, hy2⟩ := drL_mem.1 hy
      rw [adP_other hy2] at e
      exact .inl (mem_ftL.2 (.inr (.inr ⟨y, hy1, e⟩)))
theorem ft_pt (h : UpL b.l) {x y : Ls} (hf : fnL x.name b.l = some y) {n : Int} : ftL gb mb ad ⟨ptL x b.l, n⟩ = ftL gb mb ad b := by
  rw [ptL_map h hf]
  refine ft_map (F := fun z => if nmE z.name x.name = true then x else z) (fun z => ?_)
  try dsimp only
  split
  · rename_i e
    exact ((nmE_iff _ _).1 e).symm
  · rfl
end
end Go.Proofs.Ytpbobmiajjgekaa

/- New, the closures, All: their contracts. (Written by gen_lz4.py.) -/
namespace Go.Proofs.Ytpbobmiajjgekaa
set_option linter.unusedVariables false
set_option maxRecDepth 100000
set_option linter.unusedSimpArgs false
open Go.RowKit

def NwP (g most : Int) (c : Bool) (w : World) (e : Ending) (w' : World) : Prop := ((c = false ∧ e = .returned (.pointer none)) ∨ (c = true ∧ ∃ gb mb, e = .returned (.pointer (some ⟨gb, 0, none⟩)) ∧ Lz w' gb mb (fun _ => 0) g most ⟨[], 1⟩ ∧ w.heap.size ≤ gb ∧ w.heap.size ≤ mb)) ∧ Below w.heap.size w w'
set_option maxHeartbeats 1000000 in
theorem lznew_ok (g most : Int) (w : World) : Calls Try.prog 11 #[.int .i64 g, .int .i64 most] w (NwP g most (timB g && timB most) w) := by
  have H1 := Lib.hid (fun u => lspan_ok g u)
  have H2 := Lib.hid (fun u => lspan_ok most u)
  obtain ⟨a, ha⟩ : ∃ a, timB g = a := ⟨_, rfl⟩
  obtain ⟨b, hb⟩ : ∃ b, timB most = b := ⟨_, rfl⟩
  have HA := Lib.hid ha
  have HB := Lib.hid hb
  simp only [ha] at H1 ⊢
  simp only [hb] at H2 ⊢
  clear ha hb
  have hmm := @run_makeMap Try.prog
  cases a with
  | false =>
    go_enter Try.func11, Try.ntmps11
    go_wp2_with (go_at_call 33; (with_reducible refine (H1.out _).mono ?_); rintro e u5 ⟨rfl, hu⟩; rw [hu]; clear hu)
    go_ret
    exact ⟨.inl ⟨rfl, rfl⟩, Below.refl _ _⟩
  | true =>
    cases b with
    | false =>
      go_enter Try.func11, Try.ntmps11
      go_wp2_with (first
        | (go_at_call 33; (with_reducible refine (H1.out _).mono ?_); rintro e u5 ⟨rfl, hu⟩; rw [hu]; clear hu)
        | (go_at_call 33; (with_reducible refine (H2.out _).mono ?_); rintro e u5 ⟨rfl, hu⟩; rw [hu]; clear hu))
      go_ret
      exact ⟨.inl ⟨rfl, rfl⟩, Below.refl _ _⟩
    | true =>
      go_enter Try.func11, Try.ntmps11
      go_wp2_with (first
        | (go_at_call 33; (with_reducible refine (H1.out _).mono ?_); rintro e u5 ⟨rfl, hu⟩; rw [hu]; clear hu)
        | (go_at_call 33; (with_reducible refine (H2.out _).mono ?_); rintro e u5 ⟨rfl, hu⟩; rw [hu]; clear hu))
      go_ret
      have hk := Bk.new (w.alloc (.map #[] 0)) 60 (lzc g most 1 w.heap.size)
      have hsz : (w.alloc (.map #[] 0)).heap.size = w.heap.size + 1 := World.size_alloc ..
      have h1 := HA.out
      have h2 := HB.out
      unfold timB at h1 h2
      simp only [Bool.and_eq_true, decide_eq_true_eq] at h1 h2
      have hm := (Ml.made w).ke (Ke.of ((Below.refl _ _).alloc (Nat.le_refl _) (.cells (lzc g most 1 w.heap.size) 60))) (fun hx => by cases hx)
      refine ⟨.inr ⟨rfl, _, w.heap.size, rfl, ⟨by simpa using hk, by simpa using hm, (fun x hx => (by cases hx)), ⟨List.Pairwise.nil, by simp, fun x hx => (by cases hx), fun x hx => (by cases hx), by omega, by omega, by omega, by omega, by simp⟩⟩, by simp, Nat.le_refl _⟩, ?_⟩
      exact ((Below.refl _ _).alloc (Nat.le_refl _) _).alloc (by simp) _
set_option maxHeartbeats 1000000 in
theorem lvc_ok (u : World) (gb mb a p1 p2 p3 : Nat) (g most nx : Int) (x : Ls) (conn now : Int) (h : Bk u gb 60 (lzc g most nx mb)) (hx : Bk u a 32 (lsc x)) (ht : TlL x) (hg : 0 ≤ g) (hg2 : g ≤ 1073741824)
    (h1 : Bk u p1 3 #[.int .i64 conn]) (h2 : Bk u p2 24 #[.pointer (some ⟨gb, 0, none⟩)]) (h3 : Bk u p3 2 #[.int .i64 now]) :
    Calls Try.prog 44 #[.pointer (some ⟨a, 0, none⟩), .pointer (some ⟨p1, 0, none⟩), .pointer (some ⟨p2, 0, none⟩), .pointer (some ⟨p3, 0, none⟩)] u fun e u' => e = .returned (.bool (decide (x.conn = conn) && heL x now)) ∧ Below u.heap.size u u' := by
  have HA := Lib.hid (fun k => lat_ok (u.drewN k) gb mb a g most nx x now (h.drewN k) (hx.drewN k) ht hg hg2)
  have d1 : u.cell? ⟨p1, 0, none⟩ = some (.int .i64 conn) := h1.cell 0
  have d2 : u.cell? ⟨p2, 0, none⟩ = some (.pointer (some ⟨gb, 0, none⟩)) := h2.cell 0
  have d3 : u.cell? ⟨p3, 0, none⟩ = some (.int .i64 now) := h3.cell 0
  have c2 : u.cell? ⟨a, 2, none⟩ = some (.int .i64 x.conn) := hx.cell 2
  obtain ⟨hv, hhv⟩ : ∃ hv, heL x now = hv := ⟨_, rfl⟩
  obtain ⟨st, hst⟩ : ∃ st, stI g x now = st := ⟨_, rfl⟩
  have HSH := Lib.hid (show st = 2 ↔ hv = true by rw [← hst, ← hhv]; exact stI_held)
  simp only [hst] at HA
  rw [hhv]
  obtain ⟨xc, hxc⟩ : ∃ xc, x.conn = xc := ⟨_, rfl⟩
  rw [hxc] at c2 ⊢
  clear h hx ht h1 h2 h3 hhv hst hxc
  have hst2 : (st == 2) = hv := by
    cases hv with
    | true => rw [HSH.out.2 rfl]; rfl
    | false =>
      have : ¬ st = 2 := fun e => by have := HSH.out.1 e; cases this
      simp [this]
  by_cases hq : xc = conn
  · subst hq
    have hd : (xc == xc) = true := by simp
    go_enter Try.func44, Try.ntmps44
    go_wp2
    go_quiet ((go_at_call 45; exact Calls.quiet_of_same (HA.out _)))
    go_wp2
    go_ret
    exact ⟨by simp, by first | exact Below.refl _ _ | exact below_dn _⟩
  · have hd : (xc == conn) = false := by simp [hq]
    have hd2 : decide (xc = conn) = false := decide_eq_false hq
    go_enter Try.func44, Try.ntmps44
    go_wp2
    go_quiet (fail)
    go_wp2
    go_ret
    exact ⟨by rw [hd2]; rfl, by first | exact Below.refl _ _ | exact below_dn _⟩
set_option maxHeartbeats 1000000 in
theorem lpc1_ok (u : World) (a p1 : Nat) (x : Ls) (now : Int) (hx : Bk u a 32 (lsc x)) (h1 : Bk u p1 2 #[.int .i64 now]) :
    Calls Try.prog 47 #[.pointer (some ⟨a, 0, none⟩), .pointer (some ⟨p1, 0, none⟩)] u fun e u' => e = .returned (.bool (x.held && decide (x.till ≤ now))) ∧ Below u.heap.size u u' := by
  have d1 : u.cell? ⟨p1, 0, none⟩ = some (.int .i64 now) := h1.cell 0
  have c4 : u.cell? ⟨a, 4, none⟩ = some (.int .i64 x.till) := hx.cell 4
  have c5 : u.cell? ⟨a, 5, none⟩ = some (.bool x.held) := hx.cell 5
  obtain ⟨xn, xt, xc, xe, xu, xh⟩ := x
  dsimp only at c4 c5 ⊢
  clear hx h1
  cases xh with
  | false =>
    go_enter Try.func47, Try.ntmps47
    go_wp2
    go_quiet (fail)
    go_wp2
    go_ret
    exact ⟨rfl, by first | exact Below.refl _ _ | exact below_dn _⟩
  | true =>
    go_enter Try.func47, Try.ntmps47
    go_wp2
    go_quiet (fail)
    go_wp2
    go_ret
    exact ⟨by simp, by first | exact Below.refl _ _ | exact below_dn _⟩
set_option maxHeartbeats 1000000 in
theorem lpc2_ok (u : World) (gb mb a p1 p2 : Nat) (g most nx : Int) (x : Ls) (now : Int) (h : Bk u gb 60 (lzc g most nx mb)) (hx : Bk u a 32 (lsc x)) (ht : TlL x) (hg : 0 ≤ g) (hg2 : g ≤ 1073741824)
    (h1 : Bk u p1 24 #[.pointer (some ⟨gb, 0, none⟩)]) (h2 : Bk u p2 2 #[.int .i64 now]) :
    Calls Try.prog 48 #[.pointer (some ⟨a, 0, none⟩), .pointer (some ⟨p1, 0, none⟩), .pointer (some ⟨p2, 0, none⟩)] u fun e u' => e = .returned (.bool (!(heL x now || kpL g x now))) ∧ Below u.heap.size u u' := by
  have HA := Lib.hid (lat_ok u gb mb a g most nx x now h hx ht hg hg2)
  have d1 : u.cell? ⟨p1, 0, none⟩ = some (.pointer (some ⟨gb, 0, none⟩)) := h1.cell 0
  have d2 : u.cell? ⟨p2, 0, none⟩ = some (.int .i64 now) := h2.cell 0
  obtain ⟨st, hst⟩ : ∃ st, stI g x now = st := ⟨_, rfl⟩
  obtain ⟨q, hq⟩ : ∃ q, (heL x now || kpL g x now) = q := ⟨_, rfl⟩
  have hst2 : (st == 0) = !q := by
    have := stI_free (g := g) (x := x) (now := now)
    rw [hst, hq] at this
    cases q with
    | false => rw [this.2 rfl]; rfl
    | true =>
      have : ¬ st = 0 := fun e => by have := this.1 e; cases this
      simp [this]
  rw [hst] at HA
  rw [hq]
  clear h hx ht h1 h2 hst hq
  go_enter Try.func48, Try.ntmps48
  go_wp2_with (go_at_call 45; (with_reducible refine HA.out.mono ?_); rintro e u2 ⟨rfl, hu⟩; rw [hu]; clear hu)
  go_ret
  exact ⟨by first | rfl | rw [hst2], Below.refl _ _⟩
set_option maxHeartbeats 400000 in
theorem lall1_ok (u : World) (v : Value) : Calls Try.prog 54 #[v] u fun e u' => e = .returned (.bool true) ∧ Below u.heap.size u u' := by
  go_enter Try.func54, Try.ntmps54
  go_wp2
  go_ret
  exact ⟨rfl, Below.refl _ _⟩
/-- What All tells. -/
def AlP (l : List Ls) (u : World) (e : Ending) (u' : World) : Prop := ∃ A c, e = .returned (.slice A l.length c) ∧ OL13 u' u.heap.size A c l ∧ Below u.heap.size u u'
set_option maxRecDepth 100000 in
set_option maxHeartbeats 4000000 in
theorem lall_ok {u : World} {gb mb : Nat} {ad : ByteArray → Nat} {g most : Int} {b : Bo} (h : Lz u gb mb ad g most b) :
    Calls Try.prog 29 #[.pointer (some ⟨gb, 0, none⟩)] u (AlP b.l u) := by
  have HZ := Lib.hid h
  have HT := Lib.hid (those_all h (fun _ => true) (fun u' hb x hx => lall1_ok u' _))
  obtain ⟨l, nx⟩ := b
  obtain ⟨n, hn⟩ : ∃ n, l.length = n := ⟨_, rfl⟩
  have HN := Lib.hid hn
  have hf : n ≤ 64 := by rw [← hn]; exact h.ok.few
  rw [show (⟨l, nx⟩ : Bo).l.filter (fun _ => true) = l from List.filter_eq_self.2 (fun _ _ => rfl)] at HT
  dsimp only at HT HZ ⊢
  unfold ThP at HT
  rw [hn] at HT
  clear h hn
  go_enter Try.func29, Try.ntmps29
  go_wp2_with (go_at_call 43; (with_reducible refine HT.out.mono ?_); rintro e u2 ⟨A, c, rfl, ho, hb⟩; have HO := Lib.hid (Ow.rw_ (f := pcs) (k := 1) (fun _ => rfl) ho); have HB := Lib.hid hb; clear ho hb)
  clear HT
  go_loopw [3, 9] (fun v3 v9 wr => ∃ (i : Nat) (A2 : Option Addr) (c2 : Nat), i ≤ n ∧ v3 = .slice A2 i c2 ∧ v9 = .int .i64 (i : Int) ∧ Hid (OL13 wr u2.heap.size A2 c2 (l.take i)) ∧ Hid (Below u2.heap.size u2 wr)) (fun v3 v9 _ => n - (intOf v9).toNat)
  case atStart => exact ⟨0, none, 0, by omega, rfl, rfl, Lib.hid (by rw [List.take_zero]; exact Ow.nil _ _), Lib.hid (Below.refl _ _)⟩
  case round =>
    obtain ⟨i, A2, c2, hi, rfl, rfl, HR, HW⟩ := hrel
    by_cases hi1 : i < n
    · have hi2 : (i : Int) < (n : Int) := by omega
      have HBU := Lib.hid (HB.out.trans (HW.out.mono HB.out.size))
      have HZW := Lib.hid (HZ.out.on HBU.out)
      obtain ⟨bx, o, s, rfl, hs, hcl⟩ := rowP HO.out i (by rw [List.length_map, HN.out]; exact hi1)
      have c0 := hcl wr HW.out
      have hlx : i < l.length := by rw [HN.out]; exact hi1
      obtain ⟨x, hx⟩ : ∃ x, l[i]? = some x := ⟨_, List.getElem?_eq_getElem hlx⟩
      rw [List.getElem?_map, hx] at hs
      have hsx : ad x.name = s := by injection hs
      subst hsx
      have hxm : x ∈ l := List.mem_of_getElem? hx
      have HX := Lib.hid (HZW.out.each x hxm)
      have HT := Lib.hid (show l.take (i + 1) = l.take i ++ [x] by rw [List.take_add_one, hx]; rfl)
      have HM := Lib.hid (show (l.take i).length = i by rw [List.length_take, HN.out]; omega)
      obtain ⟨ax, hax⟩ : ∃ ax, ad x.name = ax := ⟨_, rfl⟩
      rw [hax] at HX c0
      clear hx hs hcl hxm hlx hax
      obtain ⟨xn, xt, xc, xe, xu, xh⟩ := x
      dsimp only [lsc] at HX
      have x0 : wr.cell? ⟨ax, 0, none⟩ = some (.string xn) := HX.out.cell 0
      have x1 : wr.cell? ⟨ax, 1, none⟩ = some (.string xt) := HX.out.cell 1
      have x2 : wr.cell? ⟨ax, 2, none⟩ = some (.int .i64 xc) := HX.out.cell 2
      have x3 : wr.cell? ⟨ax, 3, none⟩ = some (.int .i64 xe) := HX.out.cell 3
      have x4 : wr.cell? ⟨ax, 4, none⟩ = some (.int .i64 xu) := HX.out.cell 4
      have x5 : wr.cell? ⟨ax, 5, none⟩ = some (.bool xh) := HX.out.cell 5
      have HOA := Lib.hid (HR.out.on ((Below.refl wr.heap.size wr).alloc (Nat.le_refl _) (.cells #[.string xn, .string xt, .int .i64 xc, .int .i64 xe, .int .i64 xu, .bool xh] 32)))
      have HRX := Lib.hid (Rw.bk (f := lsc) (k := 6) (x := ⟨xn, xt, xc, xe, xu, xh⟩) (Bk.new wr 32 #[.string xn, .string xt, .int .i64 xc, .int .i64 xe, .int .i64 xu, .bool xh]))
      have HBA := Lib.hid (HW.out.alloc HW.out.size (.cells #[.string xn, .string xt, .int .i64 xc, .int .i64 xe, .int .i64 xu, .bool xh] 32))
      go_wp2_with (at_builtin; refine wp_rows0 roL rfl (.tmp 13) (.tmp 17) rfl i rfl HM.out HOA.out [⟨xn, xt, xc, xe, xu, xh⟩] (some ⟨wr.heap.size, 0, none⟩) 1 1 rfl rfl (fun h => by cases h) HRX.out (by omega) HBA.out.size (i + 1) rfl ?_; intro A9 c9 w9 ho9 hg9 hb9; have HO9 := Lib.hid ho9; have HB9 := Lib.hid (HBA.out.trans hb9); clear ho9 hg9 hb9)
      go_roundw
      case rel => exact ⟨i + 1, A9, c9, by omega, by first | rfl | go_num, by go_num, Lib.hid (by rw [HT.out]; exact HO9.out), HB9⟩
      case measure => simp [intOf]; omega
    · have hi2 : ¬ (i : Int) < (n : Int) := by omega
      have HTL := Lib.hid (show l.take i = l from List.take_of_length_le (by rw [HN.out]; omega))
      have HIN := Lib.hid (show i = n by omega)
      go_wp2
      go_ret
      have hO := HR.out
      rw [HTL.out] at hO
      exact ⟨A2, c2, by rw [HN.out, ← HIN.out]; rfl, hO.weak HB.out.size, HB.out.trans (HW.out.mono HB.out.size)⟩
end Go.Proofs.Ytpbobmiajjgekaa

/- Leave: its contract. (Written by gen_lz5.py.) -/
namespace Go.Proofs.Ytpbobmiajjgekaa
set_option linter.unusedVariables false
set_option maxRecDepth 100000
set_option linter.unusedSimpArgs false
open Go.RowKit

theorem Ke.low {L : List Nat} {a b c : World} (h : Ke L a b) (k : Below a.heap.size b c) : Ke L a c := ⟨k.os.trans h.os, k.tape.trans h.tape, k.output.trans h.output, Nat.le_trans h.size k.size, fun i hi hn => (k.block i hi).trans (h.block i hi hn)⟩
theorem Ml.low {u u' : World} {mb B : Nat} {l : List (ByteArray × Nat)} (h : Ml u mb l) (k : Below B u u') (hm : mb < B) : Ml u' mb l := by
  obtain ⟨h0, h1, h2, D, ⟨es, clock, hb, r⟩, h4⟩ := h
  exact ⟨h0, h1, h2, D, ⟨es, clock, (k.block mb hm).trans hb, r⟩, h4⟩
/-- The leases' blocks. -/
abbrev lbs (ad : ByteArray → Nat) (l : List Ls) : List Nat := l.map fun x => ad x.name
section
variable {u u' : World} {gb mb B : Nat} {ad : ByteArray → Nat} {g most : Int} {b : Bo}
theorem Lz.low (h : Lz u gb mb ad g most b) (k : Below B u u') (hB : ∀ y ∈ ftL gb mb ad b, y < B) : Lz u' gb mb ad g most b :=
  ⟨h.blk.below k (hB _ (mem_ftL.2 (.inl rfl))), h.mp.low k (hB _ (mem_ftL.2 (.inr (.inl rfl)))), fun x hx => (h.each x hx).below k (hB _ (mem_ftL.2 (.inr (.inr ⟨x, hx, rfl⟩)))), h.ok⟩
theorem lbs_lt (h : Lz u gb mb ad g most b) : ∀ y ∈ lbs ad b.l, y < u.heap.size := by
  intro y hy
  obtain ⟨x, hx, rfl⟩ := List.mem_map.1 hy
  exact (h.each x hx).lt
theorem ft_lbs (h : Lz u gb mb ad g most b) : ∀ y ∈ lbs ad b.l, y ∈ ftL gb mb ad b := by
  intro y hy
  obtain ⟨x, hx, rfl⟩ := List.mem_map.1 hy
  exact mem_ftL.2 (.inr (.inr ⟨x, hx, rfl⟩))
end
def kpX (t : Int) (x : Ls) : Ls := { x with held := false, till := t }
theorem upS_ft {K : Ls → Ls} (hK : ∀ x, (K x).name = x.name) {S : List Ls} {gb mb : Nat} {ad : ByteArray → Nat} {b : Bo} : ftL gb mb ad ⟨upS K S b.l, b.nx⟩ = ftL gb mb ad b := ft_map (upS_name hK S)
/-- What Leave and Lapse leave. -/
structure LvP (gb mb : Nat) (ad : ByteArray → Nat) (g most : Int) (F : List Nat) (R : List Ls × Bo) (u : World) (e : Ending) (u' : World) : Prop where
  e : ∃ A c, e = .returned (.slice A R.1.length c) ∧ OL13 u' u.heap.size A c R.1
  z : Lz u' gb mb ad g most R.2
  k : Ke F u u'
set_option maxRecDepth 100000 in
set_option maxHeartbeats 4000000 in
theorem lleave_ok {u : World} {gb mb : Nat} {ad : ByteArray → Nat} {g most : Int} {b : Bo} (h : Lz u gb mb ad g most b) (conn now : Int) :
    Calls Try.prog 21 #[.pointer (some ⟨gb, 0, none⟩), .int .i64 conn, .int .i64 now] u (LvP gb mb ad g most (lbs ad b.l) (leaveL g b conn now) u) := by
  have HZ := Lib.hid h
  have HC := Lib.hid (fun w => lmoment_ok now w)
  obtain ⟨u3, hu3⟩ : ∃ u3, ((u.alloc (.cells #[.pointer (some ⟨gb, 0, none⟩)] 24)).alloc (.cells #[.int .i64 conn] 3)).alloc (.cells #[.int .i64 now] 2) = u3 := ⟨_, rfl⟩
  obtain ⟨p2, hp2⟩ : ∃ p, u.heap.size = p := ⟨_, rfl⟩
  have HP2 := Lib.hid hp2
  have q1 : (u.alloc (.cells #[.pointer (some ⟨gb, 0, none⟩)] 24)).heap.size = p2 + 1 := by rw [← hp2]; exact World.size_alloc ..
  have q2 : ((u.alloc (.cells #[.pointer (some ⟨gb, 0, none⟩)] 24)).alloc (.cells #[.int .i64 conn] 3)).heap.size = p2 + 2 := by rw [World.size_alloc, q1]
  have HB3 := Lib.hid (show Below u.heap.size u u3 by rw [← hu3]; exact (((Below.refl u.heap.size u).alloc (Nat.le_refl _) _).alloc (by simp) _).alloc (by simp; omega) _)
  have HK2 := Lib.hid (show Bk u3 p2 24 #[.pointer (some ⟨gb, 0, none⟩)] by rw [← hu3, ← hp2]; exact ((Bk.new u 24 _).alloc _).alloc _)
  have HK1 := Lib.hid (show Bk u3 (p2 + 1) 3 #[.int .i64 conn] by rw [← hu3, ← q1]; exact (Bk.new _ 3 _).alloc _)
  have HK3 := Lib.hid (show Bk u3 (p2 + 2) 2 #[.int .i64 now] by rw [← hu3, ← q2]; exact Bk.new _ 2 _)
  have HSZ := Lib.hid (show u3.heap.size = p2 + 3 by rw [← hu3, World.size_alloc, q2])
  have HZ3 := Lib.hid (h.on HB3.out)
  have d3 : u3.cell? ⟨p2 + 2, 0, none⟩ = some (.int .i64 now) := HK3.out.cell 0
  have d2 : u3.cell? ⟨p2, 0, none⟩ = some (.pointer (some ⟨gb, 0, none⟩)) := HK2.out.cell 0
  have HT := Lib.hid (those_leave HZ3.out (p2 + 1) p2 (p2 + 2) (fun x => decide (x.conn = conn) && heL x now) (fun u' hb x hx => lvc_ok u' gb mb (ad x.name) (p2 + 1) p2 (p2 + 2) g most b.nx x conn now (HZ3.out.blk.below hb HZ3.out.blk.lt) ((HZ3.out.each x hx).below hb (HZ3.out.each x hx).lt) (h.ok.tl x hx) (by have := h.ok.g1; omega) h.ok.g2 (HK1.out.below hb HK1.out.lt) (HK2.out.below hb HK2.out.lt) (HK3.out.below hb HK3.out.lt)))
  have hmf : ∀ (fn : Fn) (first cap : Array Value) (w : World), (Instr.makeFunc fn first cap).run Try.prog w = .ok (.func fn first cap) w := fun _ _ _ _ => rfl
  obtain ⟨R, hR⟩ : ∃ R, leaveL g b conn now = R := ⟨_, rfl⟩
  have hr := hR
  rw [hR]
  unfold leaveL at hr
  obtain ⟨ck, hck⟩ : ∃ ck, clkB now = ck := ⟨_, rfl⟩
  have hck0 := hck
  rw [hck] at hr
  simp only [hck] at HC
  have HR := Lib.hid hr
  clear hr hR hck h q1 q2
  cases ck with
  | false =>
    have HS := Lib.hid (show R = ([], b) by rw [← HR.out]; rfl)
    clear hck0 HT d2
    go_enter Try.func21, Try.ntmps21
    go_upto_region 1 with fail
    try rw [hu3]
    try rw [hp2]
    clear hu3 hp2
    go_wp2_with (go_at_call 35; (with_reducible refine (HC.out _).mono ?_); rintro e u5 ⟨rfl, hu⟩; rw [hu]; clear hu)
    go_ret
    exact ⟨⟨none, 0, by rw [HS.out]; rfl, by rw [HS.out]; exact Ow.nil _ _⟩, by rw [HS.out]; exact HZ3.out, Ke.nil (Ke.of HB3.out)⟩
  | true =>
    unfold clkB at hck0
    simp only [Bool.and_eq_true, decide_eq_true_eq] at hck0
    obtain ⟨hn1, hn2⟩ := hck0
    have hg1 := HZ.out.ok.g1
    have hg2 := HZ.out.ok.g2
    obtain ⟨W, hW⟩ := Int.eq_ofNat_of_zero_le (show 0 ≤ now + g by omega)
    have HWR := Lib.hid (show IntKind.i64.wrap (now + g) = now + g from ((iwrap (now + g) W hW (by omega)).1).trans hW.symm)
    have HTL := Lib.hid (show ∀ x : Ls, TlL (kpX (now + g) x) from fun x => ⟨by show 0 ≤ now + g; omega, by show now + g ≤ _; omega, fun hh => by cases hh⟩)
    have HKN := Lib.hid (show ∀ x : Ls, (kpX (now + g) x).name = x.name from fun x => rfl)
    obtain ⟨p, hp⟩ : ∃ p : Ls → Bool, (fun x : Ls => decide (x.conn = conn) && heL x now) = p := ⟨_, rfl⟩
    have HS := Lib.hid (show R = (b.l.filter p, ⟨upS (kpX (now + g)) (b.l.filter p) b.l, b.nx⟩) by
      rw [← HR.out, if_neg (by simp), upS_all HZ.out.ok.up, ← hp]
      rfl)
    rw [hp] at HT
    obtain ⟨L, hL⟩ : ∃ L, b.l.filter p = L := ⟨_, rfl⟩
    have HUP := Lib.hid (show UpL L by rw [← hL]; exact filter_up HZ.out.ok.up p)
    have HIN := Lib.hid (show ∀ x ∈ L, x ∈ b.l by rw [← hL]; exact fun x hx => (List.mem_filter.1 hx).1)
    have hfew : L.length ≤ 64 := by rw [← hL]; exact Nat.le_trans (List.length_filter_le _ _) HZ.out.ok.few
    rw [hL] at HT HS
    obtain ⟨n, hn⟩ : ∃ n, L.length = n := ⟨_, rfl⟩
    have HN := Lib.hid hn
    unfold ThP at HT
    rw [hn] at HT hfew
    clear hn1 hn2 hg1 hg2 hW hL hp hn HR
    go_enter Try.func21, Try.ntmps21
    go_upto_region 1 with fail
    try rw [hu3]
    try rw [hp2]
    clear hu3 hp2
    go_upto_region 4 with (go_at_call 35; (with_reducible refine (HC.out _).mono ?_); rintro e u5 ⟨rfl, hu⟩; rw [hu]; clear hu)
    go_wp2_with (go_at_call 43; (with_reducible refine HT.out.mono ?_); rintro e u4 ⟨A, c, rfl, ho, hb⟩; have HO := Lib.hid ho; have HB4 := Lib.hid hb; clear ho hb)
    have HU4 := Lib.hid (HB3.out.trans (HB4.out.mono HB3.out.size))
    have HZ4 := Lib.hid (HZ3.out.on HB4.out)
    clear d2 d3 hmf HT HC
    go_loopw [7, 17] (fun v7 v17 wr => ∃ (i : Nat) (A2 : Option Addr) (c2 : Nat), i ≤ n ∧ v7 = .slice A2 i c2 ∧ v17 = .int .i64 (i : Int) ∧ Hid (OL13 wr u4.heap.size A2 c2 (L.take i)) ∧ Hid (Lz wr gb mb ad g most ⟨upS (kpX (now + g)) (L.take i) b.l, b.nx⟩) ∧ Hid (Ke (lbs ad b.l) u4 wr)) (fun v7 v17 _ => n - (intOf v17).toNat)
    case atStart => exact ⟨0, none, 0, by omega, rfl, rfl, Lib.hid (by rw [List.take_zero]; exact Ow.nil _ _), Lib.hid (by rw [List.take_zero, upS_nil]; exact HZ4.out), Lib.hid (Ke.refl _ _)⟩
    case round =>
      obtain ⟨i, A2, c2, hi, rfl, rfl, HRW, HZW, HKW⟩ := hrel
      by_cases hi1 : i < n
      · have hi2 : (i : Int) < (n : Int) := by omega
        have HOW := Lib.hid (show OP wr u3.heap.size A c (L.map fun x => ad x.name) from HO.out.keep fun q cs hq hh => hh.ke HKW.out (fun hm => by have := lbs_lt HZ.out q hm; have := HB3.out.size; omega))
        obtain ⟨bx, o, s, rfl, hs, hcl⟩ := rowP (Ow.rw_ (f := pcs) (k := 1) (fun _ => rfl) HOW.out) i (by rw [List.length_map, HN.out]; exact hi1)
        have c0 := hcl wr (Below.refl _ _)
        have hlx : i < L.length := by rw [HN.out]; exact hi1
        obtain ⟨x, hx⟩ : ∃ x, L[i]? = some x := ⟨_, List.getElem?_eq_getElem hlx⟩
        rw [List.getElem?_map, hx] at hs
        have hsx : ad x.name = s := by injection hs
        subst hsx
        have hxm : x ∈ b.l := HIN.out x (List.mem_of_getElem? hx)
        have hany : anyL (L.take i) x.name = false := anyL_false (take_lt HUP.out hx)
        have HXM := Lib.hid (upS_mem (K := kpX (now + g)) hxm hany)
        have HX := Lib.hid (HZW.out.each x HXM.out)
        have HUS := Lib.hid (upS_snoc HKN.out HZ.out.ok.up hxm hany)
        have HT := Lib.hid (show L.take (i + 1) = L.take i ++ [x] by rw [List.take_add_one, hx]; rfl)
        have HM := Lib.hid (show (L.take i).length = i by rw [List.length_take, HN.out]; omega)
        have HAF := Lib.hid (show ad x.name ∈ lbs ad b.l from List.mem_map.2 ⟨x, hxm, rfl⟩)
        have HB2 := Lib.hid (show Bk wr p2 24 #[.pointer (some ⟨gb, 0, none⟩)] from (HK2.out.below HB4.out HK2.out.lt).ke HKW.out (fun hm => by have := lbs_lt HZ.out _ hm; have := HP2.out; omega))
        have HN3 := Lib.hid (show Bk wr (p2 + 2) 2 #[.int .i64 now] from (HK3.out.below HB4.out HK3.out.lt).ke HKW.out (fun hm => by have := lbs_lt HZ.out _ hm; have := HP2.out; omega))
        have d2 : wr.cell? ⟨p2, 0, none⟩ = some (.pointer (some ⟨gb, 0, none⟩)) := HB2.out.cell 0
        have d3 : wr.cell? ⟨p2 + 2, 0, none⟩ = some (.int .i64 now) := HN3.out.cell 0
        have HKP := Lib.hid (lkeep_ok wr gb mb (ad x.name) g most b.nx x now (now + g) HZW.out.blk HX.out HWR.out)
        have HLT := Lib.hid (show ad x.name < u.heap.size from (HZ.out.each x hxm).lt)
        obtain ⟨ax, hax⟩ : ∃ ax, ad x.name = ax := ⟨_, rfl⟩
        have HAX := Lib.hid hax
        rw [hax] at HX c0 HKP HLT HAF
        clear hx hs hcl hxm hlx hax hany
        obtain ⟨xn, xt, xc, xe, xu, xh⟩ := x
        dsimp only [lsc] at HX
        go_wp2_with (first
          | (go_at_call 40; (with_reducible refine HKP.out.mono ?_); rintro e w5 ⟨rfl, hk5, hke5⟩; have HX5 := Lib.hid hk5; have HKE5 := Lib.hid hke5; have HO5 := Lib.hid (show OL13 w5 u4.heap.size A2 c2 (L.take i) from HRW.out.keep fun q cs hq hh => hh.ke hke5 (fun hm => by have := List.mem_singleton.1 hm; have := HLT.out; have := HU4.out.size; omega)); have HOA := Lib.hid (HO5.out.on ((Below.refl w5.heap.size w5).alloc (Nat.le_refl _) (.cells #[.string xn, .string xt, .int .i64 xc, .int .i64 xe, .int .i64 xu, .bool xh] 32))); have HRX := Lib.hid (Rw.bk (f := lsc) (k := 6) (x := ⟨xn, xt, xc, xe, xu, xh⟩) (Bk.new w5 32 #[.string xn, .string xt, .int .i64 xc, .int .i64 xe, .int .i64 xu, .bool xh])); have HSZ5 := Lib.hid (show u4.heap.size ≤ w5.heap.size from Nat.le_trans HKW.out.size hke5.size); have HBA := Lib.hid ((Below.refl u4.heap.size w5).alloc HSZ5.out (.cells #[.string xn, .string xt, .int .i64 xc, .int .i64 xe, .int .i64 xu, .bool xh] 32)); clear hk5 hke5)
          | (at_builtin; refine wp_rows0 roL rfl (.tmp 21) (.tmp 26) rfl i rfl HM.out HOA.out [⟨xn, xt, xc, xe, xu, xh⟩] (some ⟨w5.heap.size, 0, none⟩) 1 1 rfl rfl (fun h => by cases h) HRX.out (by omega) (Nat.le_trans HSZ5.out HBA.out.size) (i + 1) rfl ?_; intro A9 c9 w9 ho9 hg9 hb9; have HO9 := Lib.hid ho9; have HB9 := Lib.hid (HBA.out.trans hb9); clear ho9 hg9 hb9))
        go_roundw
        case rel =>
          refine ⟨i + 1, A9, c9, by omega, by first | rfl | go_num, by go_num, Lib.hid (by rw [HT.out]; exact HO9.out), Lib.hid ?_, Lib.hid ?_⟩
          · have hz5 := HZW.out.turn1 HXM.out (z := kpX (now + g) ⟨xn, xt, xc, xe, xu, xh⟩) rfl (by rw [HAX.out]; exact HKE5.out) (by rw [HAX.out]; exact HX5.out) (HTL.out _)
            rw [HT.out, ← HUS.out]
            refine hz5.low HB9.out (fun y hy => ?_)
            rw [HUS.out, upS_ft HKN.out] at hy
            have := HZ4.out.lt y hy
            omega
          · exact (HKW.out.trans (HKE5.out.more (fun y hy => by rw [List.mem_singleton.1 hy]; exact HAF.out))).low HB9.out
        case measure => simp [intOf]; omega
      · have hi2 : ¬ (i : Int) < (n : Int) := by omega
        have HTL := Lib.hid (show L.take i = L from List.take_of_length_le (by rw [HN.out]; omega))
        have HII := Lib.hid (show i = n by omega)
        go_wp2
        go_ret
        have hO := HRW.out
        have hZ := HZW.out
        rw [HTL.out] at hO hZ
        exact ⟨⟨A2, c2, by rw [HS.out]; show _ = Ending.returned (.slice A2 L.length c2); rw [HN.out, ← HII.out]; rfl, by rw [HS.out]; exact hO.weak HU4.out.size⟩, by rw [HS.out]; exact hZ, (Ke.nil (Ke.of HU4.out)).trans HKW.out⟩
end Go.Proofs.Ytpbobmiajjgekaa
