/- VtRefN, VtPl, SkPl: texts of this seat, one behind the other. -/
import Derived.Test.YtekobdmlgbffnaaGreatDoorVtRef
import Derived.Test.YtekobdmlgbffnaaGreatDoorRRight
import Derived.Test.YtekobdmlgbffnaaGreatDoorSkR
/- The document's own vault: New: its contract. (Written by gen_vtref.py.) -/
namespace Go.Proofs.YtekobdmlgbffnaaGreatDoor
set_option linter.unusedVariables false
set_option maxRecDepth 100000
set_option linter.unusedSimpArgs false
open Go.RowKit

/-- What New leaves. -/
def RnP (C : Bool) (xr : Rcf) (u : World) (e : Ending) (u' : World) : Prop := (C = false → e = .returned (.pointer none)) ∧ (C = true → ∃ rb, e = .returned (.pointer (some ⟨rb, 0, none⟩)) ∧ u.heap.size ≤ rb ∧ Rz u' rb u'.heap.size xr []) ∧ Below u.heap.size u u'
set_option maxHeartbeats 2000000 in
theorem rvnew_ok (x : Cv) (w : World) (h : RC w x) (u : World) (hu : Below w.heap.size w u) :
    Calls Tryz.prog 22 #[.agg (ccs x)] u (RnP (cfgB x.cg) ⟨x.wait, x.grace, x.idle, x.lease, x.A, x.ts.length, x.c, x.ts⟩ u) := by
  have HR := Lib.hid (fun v (hv : Below u.heap.size u v) => rfright_ok x v (h.on (hu.trans (hv.mono hu.size))))
  obtain ⟨C, hC⟩ : ∃ C, cfgB x.cg = C := ⟨_, rfl⟩
  rw [hC] at HR ⊢
  obtain ⟨a0, a1, a2, a3, ts, A, cp⟩ := x
  obtain ⟨n, hn⟩ : ∃ n, ts.length = n := ⟨_, rfl⟩
  simp only [ccs, hn] at HR ⊢
  have H1 := Lib.hid (show Bx u u.heap.size 24 #[.int .i64 a0, .int .i64 a1, .int .i64 a2, .int .i64 a3, .slice A n cp] (u.alloc (.cells #[.int .i64 a0, .int .i64 a1, .int .i64 a2, .int .i64 a3, .slice A n cp] 24)) from Bx.new _ _ _)
  clear h hn hC hu
  go_enter Tryz.func22, Tryz.ntmps22
  cases C with
  | false =>
    go_wp2_with (go_at_call 14; (with_reducible refine (HR.out _ H1.out.l).mono ?_); rintro e u2 ⟨rfl, hb⟩; have H2 := Lib.hid (H1.out.on hb); clear hb)
    go_ret
    exact ⟨fun _ => rfl, fun h => (by cases h), H2.out.l⟩
  | true =>
    go_wp2_with (go_at_call 14; (with_reducible refine (HR.out _ H1.out.l).mono ?_); rintro e u2 ⟨rfl, hb⟩; have H2 := Lib.hid (H1.out.on hb); clear hb; have e0 : u2.cell? ⟨u.heap.size, 0, none⟩ = some (.int .i64 a0) := H2.out.b.cell 0; have e1 : u2.cell? ⟨u.heap.size, 1, none⟩ = some (.int .i64 a1) := H2.out.b.cell 1; have e2 : u2.cell? ⟨u.heap.size, 2, none⟩ = some (.int .i64 a2) := H2.out.b.cell 2; have e3 : u2.cell? ⟨u.heap.size, 3, none⟩ = some (.int .i64 a3) := H2.out.b.cell 3; have e4 : u2.cell? ⟨u.heap.size, 4, none⟩ = some (.slice A n cp) := H2.out.b.cell 4)
    have hk := Bk.new u2 108 #[.int .i64 a0, .int .i64 a1, .int .i64 a2, .int .i64 a3, .slice A n cp, .slice none 0 0]
    go_ret
    exact ⟨fun h => (by cases h), fun _ => ⟨u2.heap.size, rfl, H2.out.l.size, ⟨none, 0, hk, Ow.nil _ _⟩, hk.lt, Nat.le_refl _⟩, H2.out.l.alloc H2.out.l.size _⟩
end Go.Proofs.YtekobdmlgbffnaaGreatDoor

/- The two vaults, the program's and the document's, side by side. (Taken out of gen_vtplays.py's text.) -/
namespace Go.Proofs.YtekobdmlgbffnaaGreatDoor
set_option linter.unusedVariables false
set_option maxRecDepth 100000
set_option linter.unusedSimpArgs false
open Go.RowKit

/-- The two vaults, side by side: ub is the world behind vault.New, wb the one at which the loop begins. -/
structure Pl (ub wb : World) (mb rb : Nat) (x : Rcf) (g P : Rev) (L : List (Nat × TypeId × Array Value)) (u : World) : Prop where
  k : Ke [mb] ub u
  m : Mv u mb g
  z : Rz u rb wb.heap.size x P
  kb : ∀ b ∈ L, Bk u b.1 b.2.1 b.2.2
structure Pb (w ub wb : World) (v mb rb : Nat) (c : List Tn) (x : Rcf) : Prop where
  hv : Lv w v mb c [] [] ub
  hr : ub.heap.size ≤ rb
  hw : ub.heap.size ≤ wb.heap.size
  hx : RcfB w x
  ht : ∀ a b, tkT x.ts a b = tkN c a b
section
variable {w ub wb u u' : World} {v mb rb : Nat} {c : List Tn} {x : Rcf} {g P g' : Rev} {L L' : List (Nat × TypeId × Array Value)}
theorem Pl.on (h : Pl ub wb mb rb x g P L u) (hb : Below u.heap.size u u') : Pl ub wb mb rb x g P L u' :=
  ⟨h.k.trans (Ke.of hb).nil, h.m.ke (Ke.of hb) (by simp), h.z.on hb, fun b hL => (h.kb b hL).below hb (h.kb b hL).lt⟩
theorem Pl.new (h : Pl ub wb mb rb x g P L u) (t : TypeId) (cs : Array Value) : Pl ub wb mb rb x g P ((u.heap.size, t, cs) :: L) (u.alloc (.cells cs t)) := by
  have hb := (Below.refl u.heap.size u).alloc (Nat.le_refl _) (.cells cs t)
  refine ⟨h.k.trans (Ke.of hb).nil, h.m.ke (Ke.of hb) (by simp), h.z.on hb, fun b hL => ?_⟩
  rcases List.mem_cons.1 hL with rfl | hL
  · exact Bk.new u t cs
  · exact (h.kb b hL).below hb (h.kb b hL).lt
theorem Pl.less (h : Pl ub wb mb rb x g P L u) (hL : ∀ b ∈ L', b ∈ L) : Pl ub wb mb rb x g P L' u := ⟨h.k, h.m, h.z, fun b hb => h.kb b (hL b hb)⟩
theorem Pl.head {b : Nat} {t : TypeId} {cs : Array Value} (h : Pl ub wb mb rb x g P ((b, t, cs) :: L) u) : Bk u b t cs := h.kb _ (List.mem_cons_self ..)
theorem Pb.va (b : Pb w ub wb v mb rb c x) (h : Pl ub wb mb rb x g P L u) : Va u v mb c g := b.hv.va.own h.k h.m
theorem Pb.low (b : Pb w ub wb v mb rb c x) (h : Pl ub wb mb rb x g P L u) : Below w.heap.size w u := b.hv.l.trans (h.k.below b.hv.l.size (fun y hy => by obtain rfl := List.mem_singleton.1 hy; exact b.hv.lv))
theorem pl_rev (b : Pb w ub wb v mb rb c x) (h : Pl ub wb mb rb x g P L u) (hg : g.length ≤ 1099511627776) (s t : ByteArray) : Calls Tryz.prog 25 #[.pointer (some ⟨v, 0, none⟩), .string s, .string t] u fun e u' => e = .returned (.bool (rvB (tkN c s t) (inR g s t))) ∧ Pl ub wb mb rb x (rvG (tkN c s t) g s t) P L u' :=
  (vrev_ok u v mb c g (b.va h) hg s t).mono fun e u' hh => by
    obtain ⟨h1, h2, k⟩ := hh
    obtain ⟨es, ck, he⟩ := h.m.block
    exact ⟨h1, h.k.trans k, h2.mp, h.z.keM k h.m, fun b hL => (h.kb b hL).keM k he⟩
theorem pl_rrev (b : Pb w ub wb v mb rb c x) (h : Pl ub wb mb rb x g P L u) (hl : P.length ≤ 1000) (s t : ByteArray) (hL : ∀ y ∈ L, y.2.1 ≠ 9 ∧ y.1 ≠ rb) : Calls Tryz.prog 26 #[.pointer (some ⟨rb, 0, none⟩), .string s, .string t] u fun e u' => e = .returned (.bool (rvB (tkN c s t) (inR P s t))) ∧ Pl ub wb mb rb x g (rvP (tkN c s t) P s t) L u' :=
  (rvrev_ok x rb _ P s t u h.z (b.hx.on (b.low h)) hl).mono fun e u' hh => by
    obtain ⟨h1, h2, k⟩ := hh
    rw [b.ht] at h1 h2
    have hmb := b.hv.va.mp.lt
    have hr := b.hr
    have hw := b.hw
    refine ⟨h1, ⟨k.os.trans h.k.os, k.tape.trans h.k.tape, k.output.trans h.k.output, Nat.le_trans h.k.size k.size, fun i hi hn => (k.low i (by omega) (by omega)).trans (h.k.block i hi hn)⟩, ?_, h2, fun y hy => k.ty _ _ _ (hL y hy).1 (hL y hy).2 (h.kb y hy)⟩
    obtain ⟨n, D, ⟨es, clock, hb, r⟩, h4⟩ := h.m.ex
    exact ⟨n, D, ⟨es, clock, (k.low mb (by omega) (by omega)).trans hb, r⟩, h4⟩
end
end Go.Proofs.YtekobdmlgbffnaaGreatDoor

/- The two hand-shakes, the program's and the document's, side by side. (Written by gen_skplays.py.) -/
namespace Go.Proofs.YtekobdmlgbffnaaGreatDoor
set_option linter.unusedVariables false
set_option maxRecDepth 100000
set_option linter.unusedSimpArgs false
open Go.RowKit

theorem OS.keS {w u : World} {B sb : Nat} {A : Option Addr} {c : Nat} {P : Rev} {t : TypeId} {cs : Array Value} (h : OS w B A c P) (k : Ke [sb] w u) (hb : Bk w sb t cs) (ht : t ≠ 9) : OS u B A c P :=
  h.keep fun g cs' _ hg => hg.ke k (by
    simp only [List.mem_singleton]
    intro e
    subst e
    have h1 : w.heap[g]? = some (.cells cs t) := hb
    have h2 : w.heap[g]? = some (.cells cs' 9) := hg
    rw [h1] at h2
    injection h2 with h2
    injection h2 with h3 h4
    exact ht h4)
theorem Rz.keS {u u' : World} {rb B sb : Nat} {x : Rcf} {P : Rev} {t : TypeId} {cs : Array Value} (h : Rz u rb B x P) (k : Ke [sb] u u') (hb : Bk u sb t cs) (ht : t ≠ 9) (hn : rb ≠ sb) : Rz u' rb B x P := by
  obtain ⟨⟨Ag, cg, h1, h2⟩, h3, h4⟩ := h
  exact ⟨⟨Ag, cg, h1.ke k (by simpa using hn), h2.keS k hb ht⟩, h3, Nat.le_trans h4 k.size⟩
section
variable {w ub wb u u' : World} {v mb rb sb : Nat} {c : List Tn} {x : Rcf} {g P g' : Rev} {L L' : List (Nat × TypeId × Array Value)}
theorem Pl.add (h : Pl ub wb mb rb x g P L u) {gb : Nat} {t : TypeId} {cs : Array Value} (hb : Bk u gb t cs) : Pl ub wb mb rb x g P ((gb, t, cs) :: L) u :=
  ⟨h.k, h.m, h.z, fun b hL => by
    rcases List.mem_cons.1 hL with rfl | hL
    · exact hb
    · exact h.kb b hL⟩
theorem Pl.bk (h : Pl ub wb mb rb x g P L u) {b : Nat} {t : TypeId} {cs : Array Value} (hL : (b, t, cs) ∈ L) : Bk u b t cs := h.kb _ hL
/-- A block behind both vaults is written. -/
theorem Pl.wrote (b : Pb w ub wb v mb rb c x) {t : TypeId} {cs cs' : Array Value} (h : Pl ub wb mb rb x g P ((sb, t, cs) :: L) u) (ht : t ≠ 9) (hsb : wb.heap.size ≤ sb) (hL : ∀ y ∈ L, y.1 ≠ sb) (k : Ke [sb] u u') (hb : Bk u' sb t cs') : Pl ub wb mb rb x g P ((sb, t, cs') :: L) u' := by
  have hmb := b.hv.va.mp.lt
  have hw := b.hw
  have hz := h.z.lt
  refine ⟨⟨k.os.trans h.k.os, k.tape.trans h.k.tape, k.output.trans h.k.output, Nat.le_trans h.k.size k.size, fun i hi hn => (k.block i (Nat.lt_of_lt_of_le hi h.k.size) (by simp only [List.mem_singleton]; omega)).trans (h.k.block i hi hn)⟩, h.m.ke k (by simp only [List.mem_singleton]; omega), h.z.keS k h.head ht (by omega), fun y hy => ?_⟩
  rcases List.mem_cons.1 hy with rfl | hy
  · exact hb
  · exact (h.kb y (List.mem_cons_of_mem _ hy)).ke k (by simp only [List.mem_singleton]; exact hL y hy)
theorem pl_hear (b : Pb w ub wb v mb rb c x) (hc : ∃ cg : Cg, cfgB cg = true ∧ c = cg.tens) (hG : Gl w) {s : Sk} (h : Pl ub wb mb rb x g P ((sb, 114, shc v s) :: L) u) (hsb : wb.heap.size ≤ sb) (hL : ∀ y ∈ L, y.1 ≠ sb) (hs : skB s) (y : Mg) (now : Int) (nn : ByteArray) (ha : y.a.size ≤ 1099511627776) (hz : y.b.size ≤ 140737488355328) :
    Calls Tryz.prog 27 #[.pointer (some ⟨sb, 0, none⟩), .agg y.cells, .int .i64 now, .string nn] u fun e u' => e = .returned (.tuple #[.agg (hsM (ckF c g) s y now nn).cells, .bool (!ovS s)]) ∧ Pl ub wb mb rb x g P ((sb, 114, shc v (hsS (ckF c g) s y now nn)) :: L) u' :=
  (shear_ok v mb c g s sb y now nn u (b.va h) (hG.below (b.low h) hG.size) h.head hs ha hz).mono fun e u' hh => ⟨hh.1, h.wrote b (by decide) hsb hL hh.2.2 hh.2.1⟩
theorem pl_over {s : Sk} (h : Pl ub wb mb rb x g P ((sb, 114, shc v s) :: L) u) : Calls Tryz.prog 31 #[.pointer (some ⟨sb, 0, none⟩)] u fun e u' => e = .returned (.bool (ovS s)) ∧ Pl ub wb mb rb x g P ((sb, 114, shc v s) :: L) u' :=
  (sover_ok sb v s u h.head).mono fun e u' hh => ⟨hh.1, h.on hh.2⟩
theorem pl_who {s : Sk} (h : Pl ub wb mb rb x g P ((sb, 114, shc v s) :: L) u) (hs : skB s) : Calls Tryz.prog 29 #[.pointer (some ⟨sb, 0, none⟩)] u fun e u' => e = .returned (.tuple #[.string (whS s), .bool (knS s)]) ∧ Pl ub wb mb rb x g P ((sb, 114, shc v s) :: L) u' :=
  (swho_ok sb v s u h.head hs).mono fun e u' hh => ⟨hh.1, h.on hh.2⟩
variable {qb : Nat} {st : Int} {t k n : ByteArray}
theorem pl_rover {s : Sk} (h : Pl ub wb mb rb x g P ((qb, 116, #[.pointer (some ⟨rb, 0, none⟩), .int .i64 st, .string t, .string k, .string n]) :: L) u) (hs : RqS s st t k n) : Calls Tryz.prog 32 #[.pointer (some ⟨qb, 0, none⟩)] u fun e u' => e = .returned (.bool (ovS s)) ∧ Pl ub wb mb rb x g P ((qb, 116, #[.pointer (some ⟨rb, 0, none⟩), .int .i64 st, .string t, .string k, .string n]) :: L) u' :=
  (rqover_ok qb rb s st t k n u h.head hs).mono fun e u' hh => ⟨hh.1, h.on hh.2⟩
theorem pl_rwho {s : Sk} (h : Pl ub wb mb rb x g P ((qb, 116, #[.pointer (some ⟨rb, 0, none⟩), .int .i64 st, .string t, .string k, .string n]) :: L) u) (hs : RqS s st t k n) : Calls Tryz.prog 30 #[.pointer (some ⟨qb, 0, none⟩)] u fun e u' => e = .returned (.tuple #[.string (whS s), .bool (knS s)]) ∧ Pl ub wb mb rb x g P ((qb, 116, #[.pointer (some ⟨rb, 0, none⟩), .int .i64 st, .string t, .string k, .string n]) :: L) u' :=
  (rqwho_ok qb rb s st t k n u h.head hs).mono fun e u' hh => ⟨hh.1, h.on hh.2⟩
/-- What the document's hand-shake holds is not too long. -/
structure Rsm (t k n : ByteArray) : Prop where
  t : t.size ≤ 140737488355328
  k : k.size ≤ 140737488355328
  n : n.size ≤ 140737488355328
theorem pl_rhear (b : Pb w ub wb v mb rb c x) (hsec : ∀ a b' k', tkN c a b' = some k' → k'.sec.size ≤ 32) (hQ : ∀ a b, inR g a b = inR P a b) (hl : P.length ≤ 1000) {s : Sk} (h : Pl ub wb mb rb x g P ((qb, 116, #[.pointer (some ⟨rb, 0, none⟩), .int .i64 st, .string t, .string k, .string n]) :: L) u) (hsb : wb.heap.size ≤ qb) (hL : ∀ y ∈ L, y.1 ≠ qb) (hs : RqS s st t k n) (hm : Rsm t k n) (y : Mg) (now : Int) (nn : ByteArray) (ha : y.a.size ≤ 140737488355328) (hz : y.b.size ≤ 140737488355328) :
    Calls Tryz.prog 28 #[.pointer (some ⟨qb, 0, none⟩), .agg y.cells, .int .i64 now, .string nn] u fun e u' => e = .returned (.tuple #[.agg (hsM (ckF c g) s y now nn).cells, .bool (!ovS s)]) ∧ ∃ st' t' k' n', Pl ub wb mb rb x g P ((qb, 116, #[.pointer (some ⟨rb, 0, none⟩), .int .i64 st', .string t', .string k', .string n']) :: L) u' ∧ RqS (hsS (ckF c g) s y now nn) st' t' k' n' ∧ Rsm t' k' n' := by
  have hmb := b.hv.va.mp.lt
  have hw := b.hw
  have hzl := h.z.lt
  refine (rhear_ok (ckF c g) qb rb s st t k n y now nn u h.head hs (fun u1 hk1 => ?_)).mono fun e u' hh => ?_
  · have hz1 : Rz u1 rb wb.heap.size x P := h.z.keS hk1 h.head (by decide) (by omega)
    have hlow : Below w.heap.size w u1 := (b.low h).trans (hk1.below (b.low h).size (fun i hi => by obtain rfl := List.mem_singleton.1 hi; have := b.hv.l.size; omega))
    refine (rvcheck_ok x rb _ P t k n y.a now u1 hz1 (b.hx.on hlow) hl hm.t hm.k hm.n (fun k' hk => hsec t k k' (by rw [← b.ht]; exact hk))).mono fun e u' hh => ⟨?_, hh.2⟩
    rw [hh.1, b.ht, ← hQ]
    rfl
  · obtain ⟨h1, ⟨st', t', k', n', h2, h3, h4⟩, hk⟩ := hh
    refine ⟨h1, st', t', k', n', h.wrote b (by decide) hsb hL hk h2, h3, ?_⟩
    rcases h4 with ⟨rfl, rfl, rfl⟩ | ⟨rfl, rfl, rfl⟩
    · exact hm
    · exact ⟨ha, hz, by have := cutN_small nn; omega⟩
end
end Go.Proofs.YtekobdmlgbffnaaGreatDoor
