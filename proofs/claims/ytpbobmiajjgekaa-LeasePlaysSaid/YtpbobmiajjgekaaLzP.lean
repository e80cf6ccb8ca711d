/- The two books side by side: the program's and the document's own: the contracts with letters. -/
import Derived.Test.YtpbobmiajjgekaaLsP
import Derived.Test.YtpbobmiajjgekaaLzH
namespace Go.Proofs.Ytpbobmiajjgekaa
set_option linter.unusedVariables false
set_option maxRecDepth 100000
set_option linter.unusedSimpArgs false
open Go.RowKit

/-- What the call owns stays where its own block stays. -/
theorem Ow.keepOwn {β : Type} {e : TypeId} {k : Nat} {f : β → Array Value} {w w' : World} {B : Nat} {A : Option Addr} {c : Nat} {l : List β} (h : Ow e k f w B A c l) (hk : ∀ g cs, (Value.slice A l.length c).ownBlock = some g → Bk w g e cs → Bk w' g e cs) : Ow e k f w' B A c l := by
  refine ⟨h.1, ?_⟩
  rcases h.2 with hn | ⟨g, cap, cur, hv, hg, hh, r⟩
  · exact .inl hn
  · refine .inr ⟨g, cap, cur, hv, hg, hk g cur ?_ hh, r⟩
    rw [hv]
    rfl
theorem cell_bk {w : World} {g : Nat} {t : TypeId} {cs : Array Value} (h : Bk w g t cs) (i : Nat) {v : Value} (e : w.cell? ⟨g, i, none⟩ = some v) : cs[i]? = some v := by rw [← h.cell]; exact e
/-- The document's book in the blocks K. -/
structure Dw (W u : World) (K : List Nat) (bb : Nat) (g most : Int) (d : Bo) : Prop where
  r : Lr u bb (bb + 1) g most d
  m : bb ∈ K
  o : ∀ v k, u.cell? ⟨bb, 0, none⟩ = some v → v.ownBlock = some k → k ∈ K
  lo : ∀ y ∈ K, W.heap.size ≤ y
  hi : ∀ y ∈ K, y < u.heap.size
section
variable {W u u' : World} {gb bb : Nat} {g most : Int} {b d : Bo} {G K T : List Nat}
theorem Dw.ke (h : Dw W u K bb g most d) (k : Ke G u u') (hn : ∀ y ∈ K, y ∉ G) : Dw W u' K bb g most d := by
  obtain ⟨⟨A, c, h1, h2⟩, h3, h4⟩ := h.r
  have hb : u'.heap[bb]? = u.heap[bb]? := k.block bb h1.lt (hn _ h.m)
  refine ⟨⟨⟨A, c, h1.ke k (hn _ h.m), h2.keepOwn fun g2 cs hg2 hh => hh.ke k (hn _ (h.o _ g2 (h1.cell 0) hg2))⟩, h3, Nat.le_trans h4 k.size⟩, h.m, fun v j hv hj => h.o v j ?_ hj, h.lo, fun y hy => Nat.lt_of_lt_of_le (h.hi y hy) k.size⟩
  rw [← hv]
  unfold World.cell?
  rw [hb]
/-- Both, in the blocks T. -/
def Pz (W u : World) (T : List Nat) (gb bb : Nat) (g most : Int) (b d : Bo) : Prop := ∃ G K, Lw W u G gb g most b ∧ Dw W u K bb g most d ∧ (∀ y ∈ K, y ∉ G) ∧ T = G ++ K
theorem sp_left {G' K : List Nat} (s : Sp u u' G G') : Sp u u' (G ++ K) (G' ++ K) := ⟨s.k.more (fun x hx => List.mem_append_left _ hx), fun y hy => by
  rcases List.mem_append.1 hy with e | e
  · rcases s.g y e with e1 | e1
    · exact .inl (List.mem_append_left _ e1)
    · exact .inr e1
  · exact .inl (List.mem_append_right _ e)⟩
theorem sp_right {K' : List Nat} (s : Sp u u' K K') : Sp u u' (G ++ K) (G ++ K') := ⟨s.k.more (fun x hx => List.mem_append_right _ hx), fun y hy => by
  rcases List.mem_append.1 hy with e | e
  · exact .inl (List.mem_append_left _ e)
  · rcases s.g y e with e1 | e1
    · exact .inl (List.mem_append_right _ e1)
    · exact .inr e1⟩
theorem pz_prog {G' : List Nat} {b' : Bo} (h2 : Dw W u K bb g most d) (h3 : ∀ y ∈ K, y ∉ G) (hl : Lw W u' G' gb g most b') (hs : Sp u u' G G') : Pz W u' (G' ++ K) gb bb g most b' d ∧ Sp u u' (G ++ K) (G' ++ K) :=
  ⟨⟨G', K, hl, h2.ke hs.k h3, fun y hy hg => by
    rcases hs.g y hg with e | e
    · exact h3 y hy e
    · have := h2.hi y hy; omega, rfl⟩, sp_left hs⟩
theorem pz_doc {d' : Bo} (h1 : Lw W u G gb g most b) (h2 : Dw W u K bb g most d) (h3 : ∀ y ∈ K, y ∉ G) (hq : Lq u u' bb (bb + 1) g most d') (hk : Ke [bb] u u') : ∃ K', Pz W u' (G ++ K') gb bb g most b d' ∧ Sp u u' (G ++ K) (G ++ K') := by
  have hbg : bb ∉ G := h3 _ h2.m
  have hl : Lw W u' G gb g most b := by
    obtain ⟨mb, ad, k1, k2⟩ := h1.z
    exact ⟨⟨mb, ad, k1.ke hk (fun y hy e => by rw [List.mem_singleton] at e; subst e; exact hbg (k2 _ hy)), k2⟩, h1.l.trans (hk.below h1.l.size (fun x hx => by rw [List.mem_singleton] at hx; subst hx; exact h2.lo _ h2.m)), h1.lo, fun y hy => Nat.lt_of_lt_of_le (h1.hi y hy) hk.size⟩
  have hkk : Ke K u u' := hk.more (fun x hx => by rw [List.mem_singleton] at hx; subst hx; exact h2.m)
  rcases hq with ⟨q1, q2⟩ | q
  · have s : Sp u u' K K := Sp.of hkk
    exact ⟨K, ⟨G, K, hl, ⟨q1, h2.m, fun v k hv => h2.o v k (by rw [← q2]; exact hv), h2.lo, fun y hy => Nat.lt_of_lt_of_le (h2.hi y hy) hk.size⟩, h3, rfl⟩, sp_right s⟩
  · obtain ⟨⟨A, c, k1, k2⟩, k3, k4⟩ := id q
    have hne : ∀ k, (Value.slice A d'.l.length c).ownBlock = some k → u.heap.size ≤ k ∧ k < u'.heap.size := fun k hk => ⟨(Ow.block k2 _ k hk).1, (Ow.block k2 _ k hk).2.1⟩
    refine ⟨bb :: (Value.slice A d'.l.length c).ownBlock.toList, ⟨G, _, hl, ⟨q.weak k3 (Nat.lt_succ_self _), List.mem_cons_self .., fun v k hv hk' => ?_, fun y hy => ?_, fun y hy => ?_⟩, fun y hy hg => ?_, rfl⟩, sp_right ⟨hkk, fun y hy => ?_⟩⟩
    · have e := cell_bk k1 0 hv
      simp only [bkc] at e
      injection e with e
      subst e
      exact List.mem_cons_of_mem _ (by
        have hk2 : (Value.slice A d'.l.length c).ownBlock = some k := hk'
        rw [hk2]; exact List.mem_singleton.2 rfl)
    · rcases List.mem_cons.1 hy with rfl | hy
      · exact h2.lo _ h2.m
      · exact Nat.le_trans h1.l.size (hne y (by simpa using hy)).1
    · rcases List.mem_cons.1 hy with rfl | hy
      · exact Nat.lt_of_lt_of_le k3 q.bs |> fun h => by have := k1.lt; omega
      · exact (hne y (by simpa using hy)).2
    · rcases List.mem_cons.1 hy with rfl | hy
      · exact hbg hg
      · have := (hne y (by simpa using hy)).1
        have := h1.hi y hg
        omega
    · rcases List.mem_cons.1 hy with rfl | hy
      · exact .inl h2.m
      · exact .inr (hne y (by simpa using hy)).1
theorem Pz.ok (h : Pz W u T gb bb g most b d) : Gb g most b := by obtain ⟨_, _, h1, _⟩ := h; exact h1.ok
theorem Pz.l (h : Pz W u T gb bb g most b d) : Below W.heap.size W u := by obtain ⟨_, _, h1, _⟩ := h; exact h1.l
theorem Pz.hi (h : Pz W u T gb bb g most b d) : ∀ y ∈ T, y < u.heap.size := by
  obtain ⟨G, K, h1, h2, _, rfl⟩ := h
  intro y hy
  rcases List.mem_append.1 hy with e | e
  · exact h1.hi y e
  · exact h2.hi y e
theorem Pz.on (h : Pz W u T gb bb g most b d) (hb : Below u.heap.size u u') : Pz W u' T gb bb g most b d := by
  obtain ⟨G, K, h1, h2, h3, rfl⟩ := h
  exact ⟨G, K, h1.on hb, h2.ke (Ke.of hb) (fun y _ hx => by cases hx), h3, rfl⟩
theorem Pz.set6 (h : Pz W u T gb bb g most b d) {k : Nat} (hk : k ∉ T) (hW : W.heap.size ≤ k) (v0 v1 v2 v3 v4 v5 : Value) : Pz W (Proofs.Ytpbobmiajjgekaa.set6 u k v0 v1 v2 v3 v4 v5) T gb bb g most b d := by
  obtain ⟨G, K, h1, h2, h3, rfl⟩ := h
  exact ⟨G, K, h1.set6 (fun e => hk (List.mem_append_left _ e)) hW _ _ _ _ _ _, h2.ke (ke_set u k v0 v1 v2 v3 v4 v5) (fun y hy e => by rw [List.mem_singleton] at e; subst e; exact hk (List.mem_append_right _ hy)), h3, rfl⟩
theorem Pz.row (h : Pz W u T gb bb g most b d) : ∃ A c, Bk u bb 46 (bkc A d.l.length c g most d.nx) ∧ Rw 6 lsc u A d.l := by
  obtain ⟨G, K, h1, h2, h3, rfl⟩ := h
  obtain ⟨⟨A, c, k1, k2⟩, _, _⟩ := h2.r
  exact ⟨A, c, k1, Ow.rw_ (f := lsc) (k := 6) (fun _ => rfl) k2⟩

-- the program's
theorem p_claim (h : Pz W u T gb bb g most b d) (ten s : ByteArray) (conn now ttl : Int) (ht : ten.size ≤ 140737488355328) (hs : s.size ≤ 140737488355328) (hnx : b.nx ≤ 1000000) (R : Ls × Int × Bo) (hR : claimL g most b ten s conn now ttl = R) :
    Calls Try.prog 25 #[.pointer (some ⟨gb, 0, none⟩), .string ten, .string s, .int .i64 conn, .int .i64 now, .int .i64 ttl] u fun e u' => ∃ T', e = .returned (.tuple #[.agg (lsc R.1), .int .i64 R.2.1]) ∧ Pz W u' T' gb bb g most R.2.2 d ∧ Sp u u' T T' := by
  obtain ⟨G, K, h1, h2, h3, rfl⟩ := h
  exact (w_claim h1 ten s conn now ttl ht hs hnx R hR).mono fun e u' ⟨G', e1, k1, k2⟩ => ⟨_, e1, pz_prog h2 h3 k1 k2⟩
theorem p_renew (h : Pz W u T gb bb g most b d) (ten s : ByteArray) (ep now ttl : Int) (hs : s.size ≤ 140737488355328) (R : Ls × Int × Bo) (hR : renewL most b ten s ep now ttl = R) :
    Calls Try.prog 14 #[.pointer (some ⟨gb, 0, none⟩), .string ten, .string s, .int .i64 ep, .int .i64 now, .int .i64 ttl] u fun e u' => ∃ T', e = .returned (.tuple #[.agg (lsc R.1), .int .i64 R.2.1]) ∧ Pz W u' T' gb bb g most R.2.2 d ∧ Sp u u' T T' := by
  obtain ⟨G, K, h1, h2, h3, rfl⟩ := h
  exact (w_renew h1 ten s ep now ttl hs R hR).mono fun e u' ⟨e1, k1, k2⟩ => ⟨_, e1, pz_prog h2 h3 k1 k2⟩
theorem p_release (h : Pz W u T gb bb g most b d) (ten s : ByteArray) (ep now : Int) (hs : s.size ≤ 140737488355328) (R : Int × Bo) (hR : releaseL g b ten s ep now = R) :
    Calls Try.prog 16 #[.pointer (some ⟨gb, 0, none⟩), .string ten, .string s, .int .i64 ep, .int .i64 now] u fun e u' => ∃ T', e = .returned (.int .i64 R.1) ∧ Pz W u' T' gb bb g most R.2 d ∧ Sp u u' T T' := by
  obtain ⟨G, K, h1, h2, h3, rfl⟩ := h
  exact (w_release h1 ten s ep now hs R hR).mono fun e u' ⟨e1, k1, k2⟩ => ⟨_, e1, pz_prog h2 h3 k1 k2⟩
theorem p_evict (h : Pz W u T gb bb g most b d) (s : ByteArray) (now : Int) (hs : s.size ≤ 140737488355328) (x : Ls) (is : Bool) (b' : Bo) (hx : (evictL b s now).1.getD zeroLs = x) (hi : (evictL b s now).1.isSome = is) (hb : (evictL b s now).2 = b') :
    Calls Try.prog 18 #[.pointer (some ⟨gb, 0, none⟩), .string s, .int .i64 now] u fun e u' => ∃ T', e = .returned (.tuple #[.agg (lsc x), .bool is]) ∧ Pz W u' T' gb bb g most b' d ∧ Sp u u' T T' := by
  obtain ⟨G, K, h1, h2, h3, rfl⟩ := h
  exact (w_evict h1 s now hs x is b' hx hi hb).mono fun e u' ⟨e1, k1, k2⟩ => ⟨_, e1, pz_prog h2 h3 k1 k2⟩
theorem p_leave (h : Pz W u T gb bb g most b d) (conn now : Int) (L : List Ls) (n : Nat) (b' : Bo) (hL : (leaveL g b conn now).1 = L) (hb : (leaveL g b conn now).2 = b') (hn : L.length = n) :
    Calls Try.prog 21 #[.pointer (some ⟨gb, 0, none⟩), .int .i64 conn, .int .i64 now] u fun e u' => ∃ A c T', e = .returned (.slice A n c) ∧ Rv u' T' A L ∧ Pz W u' T' gb bb g most b' d ∧ Sp u u' T T' := by
  obtain ⟨G, K, h1, h2, h3, rfl⟩ := h
  obtain ⟨mb, ad, k1, k2⟩ := h1.z
  subst hL; subst hb; subst hn
  refine (lleave_ok k1 conn now).mono fun e u' hp => ?_
  obtain ⟨A, c, j1, j2⟩ := hp.e
  have s : Sp u u' G G := Sp.of (hp.k.more (lbs_G k1 k2))
  have hl : Lw W u' G gb g most (leaveL g b conn now).2 := h1.step s ⟨mb, ad, hp.z, fun y hy => k2 y (by
    unfold leaveL at hy
    split at hy
    · exact hy
    · rw [show ftL gb mb ad (b.l.filter _, (⟨b.l.map (lvX g conn now), b.nx⟩ : Bo)).2 = ftL gb mb ad b from ft_map (lvX_name g conn now)] at hy
      exact hy)⟩ (fun y hy => Nat.lt_of_lt_of_le (h1.hi y hy) hp.k.size)
  obtain ⟨q1, q2⟩ := pz_prog h2 h3 hl s
  exact ⟨A, c, _, j1, rv_of j2 (fun y hy => by
    rcases List.mem_append.1 hy with e | e
    · exact h1.hi y e
    · exact h2.hi y e), q1, q2⟩
theorem p_lapse (h : Pz W u T gb bb g most b d) (now : Int) (L : List Ls) (n : Nat) (b' : Bo) (hL : (lapseL g b now).1 = L) (hb : (lapseL g b now).2 = b') (hn : L.length = n) :
    Calls Try.prog 23 #[.pointer (some ⟨gb, 0, none⟩), .int .i64 now] u fun e u' => ∃ A c T', e = .returned (.slice A n c) ∧ Rv u' T' A L ∧ Pz W u' T' gb bb g most b' d ∧ Sp u u' T T' := by
  obtain ⟨G, K, h1, h2, h3, rfl⟩ := h
  obtain ⟨mb, ad, k1, k2⟩ := h1.z
  subst hL; subst hb; subst hn
  refine (llapse_ok k1 now).mono fun e u' hp => ?_
  obtain ⟨A, c, j1, j2⟩ := hp.e
  have s : Sp u u' G G := Sp.of (hp.k.more (fun y hy => by
    rcases List.mem_cons.1 hy with e | e
    · rw [e]; exact k2 _ (mem_ftL.2 (.inr (.inl rfl)))
    · exact lbs_G k1 k2 y e))
  have hl : Lw W u' G gb g most (lapseL g b now).2 := h1.step s ⟨mb, ad, hp.z, fun y hy => k2 y (by
    unfold lapseL at hy
    split at hy
    · exact hy
    · rcases mem_ftL.1 hy with e | e | ⟨x, hx, e⟩
      · exact mem_ftL.2 (.inl e)
      · exact mem_ftL.2 (.inr (.inl e))
      · obtain ⟨y, hy, rfl⟩ := List.mem_map.1 (List.mem_filter.1 hx).1
        rw [lpX_name] at e
        exact mem_ftL.2 (.inr (.inr ⟨y, hy, e⟩)))⟩ (fun y hy => Nat.lt_of_lt_of_le (h1.hi y hy) hp.k.size)
  obtain ⟨q1, q2⟩ := pz_prog h2 h3 hl s
  exact ⟨A, c, _, j1, rv_of j2 (fun y hy => by
    rcases List.mem_append.1 hy with e | e
    · exact h1.hi y e
    · exact h2.hi y e), q1, q2⟩
theorem p_holder (h : Pz W u T gb bb g most b d) (s : ByteArray) (now : Int) (hs : s.size ≤ 140737488355328) (x : Ls) (is : Bool) (hx : (holdL b s now).getD zeroLs = x) (hi : (holdL b s now).isSome = is) :
    Calls Try.prog 27 #[.pointer (some ⟨gb, 0, none⟩), .string s, .int .i64 now] u fun e u' => e = .returned (.tuple #[.agg (lsc x), .bool is]) ∧ Below u.heap.size u u' := by
  obtain ⟨G, K, h1, h2, h3, rfl⟩ := h
  exact w_holder h1 s now hs x is hx hi
theorem p_all (h : Pz W u T gb bb g most b d) (n : Nat) (hn : b.l.length = n) :
    Calls Try.prog 29 #[.pointer (some ⟨gb, 0, none⟩)] u fun e u' => ∃ A c, e = .returned (.slice A n c) ∧ Rw 6 lsc u' A b.l ∧ Below u.heap.size u u' := by
  obtain ⟨G, K, h1, h2, h3, rfl⟩ := h
  exact (w_all h1 n hn).mono fun e u' ⟨A, c, k1, k2, _, k4⟩ => ⟨A, c, k1, k2.rw_, k4⟩

-- the document's
theorem gb_tl (h : Gb g most d) : ∀ y ∈ d.l, 0 ≤ y.till ∧ y.till ≤ 1125899906842624 - 1073741824 := fun y hy => ⟨(h.tl y hy).lo, by have := (h.tl y hy).hi; omega⟩
theorem r_claim (h : Pz W u T gb bb g most b d) (hd : Gb g most d) (ten s : ByteArray) (conn now ttl : Int) (ht : ten.size ≤ 140737488355328) (hs : s.size ≤ 140737488355328) (hnx : d.nx ≤ 1000000) (R : Ls × Int × Bo) (hR : claimL g most d ten s conn now ttl = R) :
    Calls Try.prog 26 #[.pointer (some ⟨bb, 0, none⟩), .string ten, .string s, .int .i64 conn, .int .i64 now, .int .i64 ttl] u fun e u' => ∃ T', e = .returned (.tuple #[.agg (lsc R.1), .int .i64 R.2.1]) ∧ Pz W u' T' gb bb g most b R.2.2 ∧ Sp u u' T T' := by
  obtain ⟨G, K, h1, h2, h3, rfl⟩ := h
  subst hR
  refine (lrclaim_q u bb (bb + 1) g most d ten s conn now ttl h2.r (by have := hd.few; omega) hd.up (by have := hd.g1; omega) hd.g2 (by have := hd.m1; omega) hd.m2 ht hs (fun y hy => ⟨(gb_tl hd y hy).1, by have := (gb_tl hd y hy).2; omega⟩) (by have := hd.nx; omega) hnx).mono fun e u' ⟨e1, k1, k2⟩ => ?_
  obtain ⟨K', q1, q2⟩ := pz_doc h1 h2 h3 k1 k2
  exact ⟨_, e1, q1, q2⟩
theorem r_renew (h : Pz W u T gb bb g most b d) (hd : Gb g most d) (ten s : ByteArray) (ep now ttl : Int) (R : Ls × Int × Bo) (hR : renewL most d ten s ep now ttl = R) :
    Calls Try.prog 15 #[.pointer (some ⟨bb, 0, none⟩), .string ten, .string s, .int .i64 ep, .int .i64 now, .int .i64 ttl] u fun e u' => ∃ T', e = .returned (.tuple #[.agg (lsc R.1), .int .i64 R.2.1]) ∧ Pz W u' T' gb bb g most b R.2.2 ∧ Sp u u' T T' := by
  obtain ⟨G, K, h1, h2, h3, rfl⟩ := h
  subst hR
  refine (lrrenew_q u bb (bb + 1) g most d ten s ep now ttl h2.r (by have := hd.few; omega) hd.up (by have := hd.m1; omega) hd.m2).mono fun e u' ⟨e1, k1, k2⟩ => ?_
  obtain ⟨K', q1, q2⟩ := pz_doc h1 h2 h3 k1 k2
  exact ⟨_, e1, q1, q2⟩
theorem r_release (h : Pz W u T gb bb g most b d) (hd : Gb g most d) (ten s : ByteArray) (ep now : Int) (R : Int × Bo) (hR : releaseL g d ten s ep now = R) :
    Calls Try.prog 17 #[.pointer (some ⟨bb, 0, none⟩), .string ten, .string s, .int .i64 ep, .int .i64 now] u fun e u' => ∃ T', e = .returned (.int .i64 R.1) ∧ Pz W u' T' gb bb g most b R.2 ∧ Sp u u' T T' := by
  obtain ⟨G, K, h1, h2, h3, rfl⟩ := h
  subst hR
  refine (lrrelease_q u bb (bb + 1) g most d ten s ep now h2.r (by have := hd.few; omega) hd.up (by have := hd.g1; omega) hd.g2).mono fun e u' ⟨e1, k1, k2⟩ => ?_
  obtain ⟨K', q1, q2⟩ := pz_doc h1 h2 h3 k1 k2
  exact ⟨_, e1, q1, q2⟩
theorem r_evict (h : Pz W u T gb bb g most b d) (hd : Gb g most d) (s : ByteArray) (now : Int) (x : Ls) (is : Bool) (b' : Bo) (hx : (evictL d s now).1.getD zeroLs = x) (hi : (evictL d s now).1.isSome = is) (hb : (evictL d s now).2 = b') :
    Calls Try.prog 19 #[.pointer (some ⟨bb, 0, none⟩), .string s, .int .i64 now] u fun e u' => ∃ T', e = .returned (.tuple #[.agg (lsc x), .bool is]) ∧ Pz W u' T' gb bb g most b b' ∧ Sp u u' T T' := by
  obtain ⟨G, K, h1, h2, h3, rfl⟩ := h
  subst hx; subst hi; subst hb
  refine (lrevict_q u bb (bb + 1) g most d s now h2.r (by have := hd.few; omega)).mono fun e u' ⟨e1, k1, k2⟩ => ?_
  obtain ⟨K', q1, q2⟩ := pz_doc h1 h2 h3 k1 k2
  exact ⟨_, e1, q1, q2⟩
theorem r_leave (h : Pz W u T gb bb g most b d) (hd : Gb g most d) (conn now : Int) (L : List Ls) (n : Nat) (b' : Bo) (hL : (leaveL g d conn now).1 = L) (hb : (leaveL g d conn now).2 = b') (hn : L.length = n) :
    Calls Try.prog 22 #[.pointer (some ⟨bb, 0, none⟩), .int .i64 conn, .int .i64 now] u fun e u' => ∃ A c T', e = .returned (.slice A n c) ∧ Rw 6 lsc u' A L ∧ Pz W u' T' gb bb g most b b' ∧ Sp u u' T T' := by
  obtain ⟨G, K, h1, h2, h3, rfl⟩ := h
  subst hL; subst hb; subst hn
  refine (lrleave_q u bb (bb + 1) g most d conn now h2.r (by have := hd.few; omega) hd.up (by have := hd.g1; omega) hd.g2).mono fun e u' ⟨A, c, e1, k0, k1, k2⟩ => ?_
  obtain ⟨K', q1, q2⟩ := pz_doc h1 h2 h3 k1 k2
  exact ⟨A, c, _, e1, Ow.rw_ (f := lsc) (k := 6) (fun _ => rfl) k0, q1, q2⟩
theorem r_lapse (h : Pz W u T gb bb g most b d) (hd : Gb g most d) (now : Int) (L : List Ls) (n : Nat) (b' : Bo) (hL : (lapseL g d now).1 = L) (hb : (lapseL g d now).2 = b') (hn : L.length = n) :
    Calls Try.prog 24 #[.pointer (some ⟨bb, 0, none⟩), .int .i64 now] u fun e u' => ∃ A c T', e = .returned (.slice A n c) ∧ Rw 6 lsc u' A L ∧ Pz W u' T' gb bb g most b b' ∧ Sp u u' T T' := by
  obtain ⟨G, K, h1, h2, h3, rfl⟩ := h
  subst hL; subst hb; subst hn
  refine (lrlapse_q u bb (bb + 1) g most d now h2.r (by have := hd.few; omega) hd.up (by have := hd.g1; omega) hd.g2 (gb_tl hd)).mono fun e u' ⟨A, c, e1, k0, k1, k2⟩ => ?_
  obtain ⟨K', q1, q2⟩ := pz_doc h1 h2 h3 k1 k2
  exact ⟨A, c, _, e1, Ow.rw_ (f := lsc) (k := 6) (fun _ => rfl) k0, q1, q2⟩
theorem r_holder (h : Pz W u T gb bb g most b d) (hd : Gb g most d) (s : ByteArray) (now : Int) (x : Ls) (is : Bool) (hx : (holdL d s now).getD zeroLs = x) (hi : (holdL d s now).isSome = is) :
    Calls Try.prog 28 #[.pointer (some ⟨bb, 0, none⟩), .string s, .int .i64 now] u fun e u' => e = .returned (.tuple #[.agg (lsc x), .bool is]) ∧ Below u.heap.size u u' := by
  obtain ⟨G, K, h1, h2, h3, rfl⟩ := h
  subst hx; subst hi
  exact lrholder_ok u bb (bb + 1) g most d s now h2.r (by have := hd.few; omega)
/-- Both made. -/
theorem r_new (h : Lw W u G gb g most ⟨[], 1⟩) (hg : timB g = true) (hm : timB most = true) : Calls Try.prog 12 #[.int .i64 g, .int .i64 most] u fun e u' => ∃ bb T, e = .returned (.pointer (some ⟨bb, 0, none⟩)) ∧ Pz W u' T gb bb g most ⟨[], 1⟩ ⟨[], 1⟩ :=
  (lrnew_ok g most u).mono fun e u' hh => by
    obtain ⟨⟨h1, _⟩ | ⟨_, h2, h3⟩, hb⟩ := hh
    · rw [hg, hm] at h1; cases h1
    · obtain ⟨⟨A, c, k1, k2⟩, k3, k4⟩ := id h3
      have hA : (Value.slice A 0 c).ownBlock = none := by
        cases hv : (Value.slice A 0 c).ownBlock with
        | none => rfl
        | some k =>
          have := Ow.block k2 0 k hv
          omega
      refine ⟨u.heap.size, _, h2, G, [u.heap.size], h.on hb, ⟨h3.weak k3 (Nat.lt_succ_self _), List.mem_singleton.2 rfl, fun v k hv hk => ?_, fun y hy => ?_, fun y hy => ?_⟩, fun y hy hG => ?_, rfl⟩
      · have e := cell_bk k1 0 hv
        simp only [bkc] at e
        injection e with e
        subst e
        have hk2 : (Value.slice A 0 c).ownBlock = some k := hk
        rw [hA] at hk2; cases hk2
      · rw [List.mem_singleton] at hy; subst hy; exact h.l.size
      · rw [List.mem_singleton] at hy; subst hy; exact k1.lt
      · rw [List.mem_singleton] at hy; subst hy; have := h.hi _ hG; omega
end
theorem r_new_no (u : World) (g most : Int) (hg : (timB g && timB most) = false) : Calls Try.prog 12 #[.int .i64 g, .int .i64 most] u fun e u' => e = .returned (.pointer none) ∧ Below u.heap.size u u' :=
  (lrnew_ok g most u).mono fun e u' hh => by
    obtain ⟨⟨_, h2⟩ | ⟨h1, _⟩, hb⟩ := hh
    · exact ⟨h2, hb⟩
    · rw [hg] at h1; cases h1
theorem yieldsIf_nls {ops : Array Oper} {S : World → Prop} {oi : Oper} {a : Act} (hw : Region.wanted oi (yielded ops a.tmps) = true) (p q : Operand) (d : TypeId) (ho : oi.op = .binOp .neq 32 p q d) (x : Ls) (hx : a.eval p = .agg (lsc x)) (hy : a.eval q = .agg (lsc x)) : YieldsIf Try.prog ops S oi (.bool false) a := by
  have h := yieldsIf_nel (S := S) hw p q d ho x x hx hy
  rw [eqLs_same] at h
  exact h
end Go.Proofs.Ytpbobmiajjgekaa
