/- Gt3, CfgX, Idx: texts of this seat, one behind the other. -/
import Derived.Test.YtcplebbaiambgaaG5
import Derived.Test.YtcplebbaiambgaaG4
import Derived.Test.YtcplebbaiambgaaG1
/- A gate's memory; Admit, Used, Take, Give: their contracts. (Written by gen_gt3.py.) -/
namespace Go.Proofs.Ytcplebbaiambgaa
set_option linter.unusedVariables false
set_option maxRecDepth 100000
set_option linter.unusedSimpArgs false
open Go.RowKit

theorem pw_inj {α β : Type} {f : α → β} : ∀ {l : List α}, l.Pairwise (fun x y => f x ≠ f y) → ∀ {x y : α}, x ∈ l → y ∈ l → f x = f y → x = y
  | [], _, _, _, h, _, _ => by cases h
  | a :: r, hp, x, y, hx, hy, e => by
    obtain ⟨h1, h2⟩ := List.pairwise_cons.1 hp
    rcases List.mem_cons.1 hx with hx1 | hx1
    · subst hx1
      rcases List.mem_cons.1 hy with hy1 | hy1
      · exact hy1.symm
      · exact absurd e (h1 y hy1)
    · rcases List.mem_cons.1 hy with hy1 | hy1
      · subst hy1
        exact absurd e.symm (h1 x hx1)
      · exact pw_inj h2 hx1 hy1 e
/-- Where a tenant lies. -/
structure GtL where
  b : Nat
  t : Tn
  A : Option Addr
  c : Nat
abbrev GtL.cs (y : GtL) (U : Us) : Array Value := gcl (U y.t.name 1) (U y.t.name 2) y.t.names y.t.visitors (.slice y.A y.t.nets.length y.c)
/-- At g lies a gate of those tenants, its map at mb, its tenants' blocks from lo on, below hi; each has what U says. -/
structure Gz (u : World) (g mb lo hi : Nat) (gs : List GtL) (U : Us) : Prop where
  blk : Bk u g 59 #[.map (some mb)]
  mp : Mg u mb (gs.map fun y => (y.t.name, y.b))
  each : ∀ y ∈ gs, Bk u y.b 67 (y.cs U) ∧ ON u lo y.A y.c y.t.nets
  bs : gs.Pairwise (fun x y => x.b ≠ y.b)
  at_ : ∀ y ∈ gs, lo ≤ y.b ∧ y.b < hi
  nt : ∀ y ∈ gs, y.t.nets.length ≤ 1000 ∧ ∀ n ∈ y.t.nets, n.addr < 4294967296
  lim : LimU (gs.map (·.t)) U
  q : ∀ y ∈ gs, (0 ≤ y.t.names ∧ y.t.names ≤ 8) ∧ (0 ≤ y.t.visitors ∧ y.t.visitors ≤ 8)
/-- What turned are tenants' blocks, from lo on, below hi. -/
def Kg (lo hi : Nat) (u u' : World) : Prop := ∃ L : List Nat, (∀ b ∈ L, (lo ≤ b ∧ b < hi) ∧ ∃ cs, Bk u b 67 cs) ∧ Ke L u u'
theorem Kg.of {lo hi : Nat} {u u' : World} (h : Below u.heap.size u u') : Kg lo hi u u' := ⟨[], (fun b hb => by cases hb), Ke.of h⟩
theorem Kg.below {lo hi B : Nat} {u u' : World} (h : Kg lo hi u u') (hB : B ≤ u.heap.size) (hlo : B ≤ lo) : Below B u u' := by
  obtain ⟨L, hL, hk⟩ := h
  exact hk.below hB (fun x hx => Nat.le_trans hlo (hL x hx).1.1)
theorem Bk.kg {lo hi k : Nat} {u u' : World} {t : TypeId} {cs : Array Value} (h : Bk u k t cs) (K : Kg lo hi u u') (ht : t ≠ 67) : Bk u' k t cs := by
  obtain ⟨L, hL, hk⟩ := K
  refine h.ke hk (fun hx => ?_)
  obtain ⟨_, ds, hd⟩ := hL k hx
  have h1 : u.heap[k]? = some (.cells cs t) := h
  have h2 : u.heap[k]? = some (.cells ds 67) := hd
  rw [h1] at h2
  injection h2 with h2
  injection h2 with _ h3
  exact ht h3
theorem Bk.kgFar {lo hi k : Nat} {u u' : World} {t : TypeId} {cs : Array Value} (h : Bk u k t cs) (K : Kg lo hi u u') (hk : k < lo ∨ hi ≤ k) : Bk u' k t cs := by
  obtain ⟨L, hL, hke⟩ := K
  exact h.ke hke (fun hx => by have := (hL k hx).1; omega)
theorem Mg.kg {lo hi mb : Nat} {u u' : World} {l : List (ByteArray × Nat)} (h : Mg u mb l) (K : Kg lo hi u u') : Mg u' mb l := by
  obtain ⟨L, hL, hk⟩ := K
  refine h.ke hk (fun hx => ?_)
  obtain ⟨_, ds, hd⟩ := hL mb hx
  obtain ⟨es, ck, he⟩ := h.block
  have h2 : u.heap[mb]? = some (.cells ds 67) := hd
  rw [he] at h2
  cases h2
theorem ON.kg {lo hi B : Nat} {u u' : World} {A : Option Addr} {c : Nat} {l : List Nt} (h : ON u B A c l) (K : Kg lo hi u u') : ON u' B A c l :=
  h.keep fun g cs _ hh => hh.kg K (by decide)
section
variable {u u' : World} {g mb lo hi lo' hi' : Nat} {gs : List GtL} {U U' : Us}
/-- Another gate's tenants turned, or nothing did. -/
theorem Gz.other (h : Gz u g mb lo hi gs U) (K : Kg lo' hi' u u') (hd : hi ≤ lo' ∨ hi' ≤ lo) : Gz u' g mb lo hi gs U :=
  ⟨h.blk.kg K (by decide), h.mp.kg K, fun y hy => ⟨(h.each y hy).1.kgFar K (by have := h.at_ y hy; omega), (h.each y hy).2.kg K⟩, h.bs, h.at_, h.nt, h.lim, h.q⟩
theorem Gz.on (h : Gz u g mb lo hi gs U) (hb : Below u.heap.size u u') : Gz u' g mb lo hi gs U := h.other (Kg.of (lo := hi) (hi := hi) hb) (.inl (Nat.le_refl _))
/-- One of its own turned. -/
theorem Gz.own (h : Gz u g mb lo hi gs U) {z : GtL} (hz : z ∈ gs) (k : Ke [z.b] u u') (hk : Bk u' z.b 67 (z.cs U')) (hs : ∀ y ∈ gs, y.b ≠ z.b → y.cs U' = y.cs U) (hl : LimU (gs.map (·.t)) U') : Gz u' g mb lo hi gs U' ∧ Kg lo hi u u' := by
  have K : Kg lo hi u u' := ⟨[z.b], (fun b hb => by obtain rfl := List.mem_singleton.1 hb; exact ⟨h.at_ z hz, _, (h.each z hz).1⟩), k⟩
  refine ⟨⟨h.blk.kg K (by decide), h.mp.kg K, fun y hy => ⟨?_, (h.each y hy).2.kg K⟩, h.bs, h.at_, h.nt, hl, h.q⟩, K⟩
  by_cases e : y.b = z.b
  · have : y = z := pw_inj (f := fun y : GtL => y.b) h.bs hy hz e
    subst this
    exact hk
  · rw [hs y hy e]
    exact (h.each y hy).1.ke k (by simpa using e)
theorem Gz.names (h : Gz u g mb lo hi gs U) {y z : GtL} (hy : y ∈ gs) (hz : z ∈ gs) (e : y.t.name = z.t.name) : y = z := pw_inj (f := fun y : GtL => y.t.name) ((List.pairwise_map (f := fun y : GtL => (y.t.name, y.b)) (R := fun x y : ByteArray × Nat => x.1 ≠ y.1)).1 h.mp.ids) hy hz e
/-- Found, or not. -/
theorem Gz.find (h : Gz u g mb lo hi gs U) (s : ByteArray) : (gtF (gs.map (·.t)) s = none ∧ ∀ x ∈ (gs.map fun y => (y.t.name, y.b)), x.1 ≠ s) ∨ ∃ y ∈ gs, y.t.name = s ∧ gtF (gs.map (·.t)) s = some y.t := by
  cases hq : gtF (gs.map (·.t)) s with
  | none =>
    left
    refine ⟨rfl, fun x hx e => ?_⟩
    obtain ⟨y, hy, rfl⟩ := List.mem_map.1 hx
    unfold gtF at hq
    have := List.find?_eq_none.1 hq y.t (List.mem_map.2 ⟨y, hy, rfl⟩)
    exact this (nmEq_iff.2 e)
  | some t =>
    right
    obtain ⟨h1, h2⟩ := gtF_name hq
    obtain ⟨y, hy, rfl⟩ := List.mem_map.1 h2
    exact ⟨y, hy, h1, rfl⟩
theorem Gz.le8 (h : Gz u g mb lo hi gs U) (s : ByteArray) (k : Int) : U s k ≤ 8 := by
  have h1 := h.lim s k
  rcases h.find s with ⟨hn, _⟩ | ⟨y, hy, _, hf⟩
  · rw [hn] at h1
    exact Nat.le_trans h1 (Nat.zero_le _)
  · rw [hf] at h1
    obtain ⟨⟨a1, a2⟩, b1, b2⟩ := h.q y hy
    have h2 : U s k ≤ mxT y.t k := h1
    unfold mxT at h2
    split at h2
    · omega
    · split at h2
      · omega
      · omega
end
theorem cs_other {y : GtL} {U : Us} {s : ByteArray} {k : Int} {n : Nat} (h : y.t.name ≠ s) : y.cs (stU U s k n) = y.cs U := by
  unfold GtL.cs
  rw [stU_name h, stU_name h]
theorem cs_1 {y : GtL} {U : Us} {n : Nat} : y.cs (stU U y.t.name 1 n) = gcl n (U y.t.name 2) y.t.names y.t.visitors (.slice y.A y.t.nets.length y.c) := by
  unfold GtL.cs
  rw [stU_same, stU_kind (by decide)]
theorem cs_2 {y : GtL} {U : Us} {n : Nat} : y.cs (stU U y.t.name 2 n) = gcl (U y.t.name 1) n y.t.names y.t.visitors (.slice y.A y.t.nets.length y.c) := by
  unfold GtL.cs
  rw [stU_same, stU_kind (by decide)]

set_option maxRecDepth 100000 in
set_option maxHeartbeats 1000000 in
theorem admits_ok (u : World) (b : Nat) (n v : Nat) (x y : Int) (A : Option Addr) (l : List Nt) (c B a : Nat) (h : Bk u b 67 (gcl n v x y (.slice A l.length c))) (hn : ON u B A c l) (hf : l.length ≤ 1000) (hl : ∀ x ∈ l, x.addr < 4294967296) (ha : a < 4294967296) :
    Calls Try.prog 30 #[.pointer (some ⟨b, 0, none⟩), .int .u32 (a : Int)] u fun e u' => e = .returned (.bool (decide (l = []) || netsB l a)) ∧ Below u.heap.size u u' := by
  have hb := (Below.refl u.heap.size u).alloc (Nat.le_refl _) (.cells #[.int .u32 (a : Int)] 33)
  have hk := h.below hb h.lt
  have HC := Lib.hid (contains_ok A l l.length c u.heap.size a _ ((hn.on hb).rw_ (fun _ => rfl)) rfl (by omega) hl ha (by have := (Bk.new u 33 #[.int .u32 (a : Int)]).cell 0; exact this) (Bk.new u 33 #[.int .u32 (a : Int)]).lt)
  have HB := Lib.hid hb
  have c6 : (u.alloc (.cells #[.int .u32 (a : Int)] 33)).cell? ⟨b, 6, none⟩ = some (.slice A l.length c) := hk.cell 6
  obtain ⟨R, hR⟩ : ∃ R, netsB l a = R := ⟨_, rfl⟩
  rw [hR] at HC ⊢
  have HE := Lib.hid (show decide (l = []) = decide (l.length = 0) by cases l <;> simp)
  rw [HE.out]
  obtain ⟨m, hm⟩ : ∃ m, l.length = m := ⟨_, rfl⟩
  rw [hm] at HC c6 hf ⊢
  clear h hn hl hb hk hR HE hm
  by_cases h0 : m = 0
  · subst h0
    go_enter Try.func30, Try.ntmps30
    go_wp2
    go_ret
    exact ⟨rfl, HB.out⟩
  · have h1 : ((m : Int) == 0) = false := by rw [beq_eq_false_iff_ne]; omega
    have hd : decide (m = 0) = false := decide_eq_false h0
    rw [hd, Bool.false_or]
    go_enter Try.func30, Try.ntmps30
    go_wp2_with (go_at_call 42; refine HC.out.mono ?_; rintro e u2 ⟨rfl, hb2⟩; have H2 := Lib.hid (HB.out.trans (hb2.mono HB.out.size)); clear hb2)
    go_ret
    exact ⟨rfl, H2.out⟩

/-- Admit. -/
theorem gadmit_ok (u : World) (g mb lo hi : Nat) (gs : List GtL) (U : Us) (h : Gz u g mb lo hi gs U) (s : ByteArray) (a : Nat) (hs : s.size ≤ 140737488355328) (ha : a < 4294967296) :
    Calls Try.prog 16 #[.pointer (some ⟨g, 0, none⟩), .string s, .int .u32 (a : Int)] u fun e u' => e = .returned (.int .i64 (adI (gtF (gs.map (·.t)) s) a)) ∧ Below u.heap.size u u' := by
  have c0 : u.cell? ⟨g, 0, none⟩ = some (.map (some mb)) := h.blk.cell 0
  rcases h.find s with ⟨hn, hm⟩ | ⟨y, hy, rfl, hf⟩
  · have hl := h.mp.miss hs hm
    rw [hn]
    clear h hn hm
    go_enter Try.func16, Try.ntmps16
    go_wp2
    go_ret
    exact ⟨rfl, Below.refl _ _⟩
  · have hl := h.mp.hit (s := y.t.name) (b := y.b) (List.mem_map.2 ⟨y, hy, rfl⟩)
    have HA := Lib.hid (admits_ok u y.b _ _ _ _ y.A y.t.nets y.c lo a (h.each y hy).1 (h.each y hy).2 (h.nt y hy).1 (h.nt y hy).2 ha)
    obtain ⟨R, hR⟩ : ∃ R, (decide (y.t.nets = []) || netsB y.t.nets a) = R := ⟨_, rfl⟩
    rw [hR] at HA
    have HI := Lib.hid (show adI (some y.t) a = if R = true then 0 else 111 by
      rw [← hR]
      unfold adI
      simp)
    rw [hf, HI.out]
    clear h hf hy hR HI
    cases R with
    | true =>
      go_enter Try.func16, Try.ntmps16
      go_wp2_with (go_at_call 30; refine HA.out.mono ?_; rintro e u2 ⟨rfl, hb2⟩; have H2 := Lib.hid hb2; clear hb2)
      go_ret
      exact ⟨rfl, H2.out⟩
    | false =>
      go_enter Try.func16, Try.ntmps16
      go_wp2_with (go_at_call 30; refine HA.out.mono ?_; rintro e u2 ⟨rfl, hb2⟩; have H2 := Lib.hid hb2; clear hb2)
      go_ret
      exact ⟨rfl, H2.out⟩

theorem cn_parts {k : Int} (h : cnB k = false) : (decide (k = 1) || decide (k = 2)) = false := h
set_option maxRecDepth 100000 in
set_option maxHeartbeats 2000000 in
theorem gused_ok (u : World) (g mb lo hi : Nat) (gs : List GtL) (U : Us) (h : Gz u g mb lo hi gs U) (s : ByteArray) (k : Int) (hs : s.size ≤ 140737488355328) :
    Calls Try.prog 20 #[.pointer (some ⟨g, 0, none⟩), .string s, .int .i64 k] u fun e u' => e = .returned (.int .i64 (U s k : Int)) ∧ Below u.heap.size u u' := by
  have c0 : u.cell? ⟨g, 0, none⟩ = some (.map (some mb)) := h.blk.cell 0
  have HG := Lib.hid h
  have HCN := Lib.hid (fun w => counted_ok k w)
  rcases h.find s with ⟨hn, hm⟩ | ⟨y, hy, rfl, hf⟩
  · have hl := h.mp.miss hs hm
    have HU := Lib.hid (h.lim.none_ hn k)
    rw [HU.out]
    clear h hn hm
    go_enter Try.func20, Try.ntmps20
    go_wp2
    go_ret
    exact ⟨rfl, Below.refl _ _⟩
  · have hl := h.mp.hit (s := y.t.name) (b := y.b) (List.mem_map.2 ⟨y, hy, rfl⟩)
    have HM1 := Lib.hid (fun u' (hb : Below u.heap.size u u') => many1_ok u' y.b _ _ _ _ _ ((h.each y hy).1.below hb (h.each y hy).1.lt))
    have HM2 := Lib.hid (fun u' (hb : Below u.heap.size u u') => many2_ok u' y.b _ _ _ _ _ ((h.each y hy).1.below hb (h.each y hy).1.lt))
    cases hc : cnB k with
    | false =>
      have HU := Lib.hid (h.lim.not_ y.t.name hc)
      rw [HU.out]
      have hc2 : (decide (k = 1) || decide (k = 2)) = false := hc
      rw [hc2] at HCN
      clear h hf hy hc hc2
      go_enter Try.func20, Try.ntmps20
      go_wp2_with (go_at_call 27; (with_reducible refine (HCN.out _).mono ?_); rintro e u2 ⟨rfl, hb2⟩; have H2 := Lib.hid hb2; clear hb2)
      go_ret
      exact ⟨rfl, H2.out⟩
    | true =>
      rcases cnB_iff.1 hc with rfl | rfl
      · clear h hf hy hc
        go_enter Try.func20, Try.ntmps20
        go_wp2_with (first
          | (go_at_call 27; (with_reducible refine (HCN.out _).mono ?_); rintro e u2 ⟨rfl, hb2⟩; have H2 := Lib.hid hb2; clear hb2)
          | (go_at_call 33; (with_reducible refine (HM1.out _ H2.out).mono ?_); rintro e u3 ⟨rfl, hb3⟩; have H3 := Lib.hid (H2.out.trans (hb3.mono H2.out.size)); clear hb3))
        go_ret
        exact ⟨rfl, H3.out⟩
      · clear h hf hy hc
        go_enter Try.func20, Try.ntmps20
        go_wp2_with (first
          | (go_at_call 27; (with_reducible refine (HCN.out _).mono ?_); rintro e u2 ⟨rfl, hb2⟩; have H2 := Lib.hid hb2; clear hb2)
          | (go_at_call 33; (with_reducible refine (HM2.out _ H2.out).mono ?_); rintro e u3 ⟨rfl, hb3⟩; have H3 := Lib.hid (H2.out.trans (hb3.mono H2.out.size)); clear hb3))
        go_ret
        exact ⟨rfl, H3.out⟩

/-- What Give leaves. -/
structure GvQ (g mb lo hi : Nat) (gs : List GtL) (U : Us) (s : ByteArray) (k : Int) (u : World) (e : Ending) (u' : World) : Prop where
  e : e = .returned (.bool (gvB U s k))
  z : Gz u' g mb lo hi gs (gvU U s k)
  k : Kg lo hi u u'
theorem GvQ.zero {g mb lo hi : Nat} {gs : List GtL} {U : Us} {s : ByteArray} {k : Int} {u u' : World} (h : Gz u g mb lo hi gs U) (hu : U s k = 0) (hb : Below u.heap.size u u') : GvQ g mb lo hi gs U s k u (.returned (.bool false)) u' :=
  ⟨by unfold gvB; rw [hu]; rfl, by rw [gvU_zero hu]; exact h.on hb, Kg.of hb⟩
theorem Ke.thenOf {L : List Nat} {a b c : World} (h : Ke L b c) (hb : Below a.heap.size a b) : Ke L a c := (Ke.nil (Ke.of hb)).trans h
set_option maxRecDepth 100000 in
set_option maxHeartbeats 2000000 in
theorem ggive_ok (u : World) (g mb lo hi : Nat) (gs : List GtL) (U : Us) (h : Gz u g mb lo hi gs U) (s : ByteArray) (k : Int) (hs : s.size ≤ 140737488355328) :
    Calls Try.prog 14 #[.pointer (some ⟨g, 0, none⟩), .string s, .int .i64 k] u fun e u' => GvQ g mb lo hi gs U s k u e u' := by
  have c0 : u.cell? ⟨g, 0, none⟩ = some (.map (some mb)) := h.blk.cell 0
  have HG := Lib.hid h
  have HCN := Lib.hid (fun w => counted_ok k w)
  rcases h.find s with ⟨hn, hm⟩ | ⟨y, hy, rfl, hf⟩
  · have hl := h.mp.miss hs hm
    have HU := Lib.hid (h.lim.none_ hn k)
    clear h hn hm
    go_enter Try.func14, Try.ntmps14
    go_wp2
    go_ret
    exact GvQ.zero HG.out HU.out (Below.refl _ _)
  · have hl := h.mp.hit (s := y.t.name) (b := y.b) (List.mem_map.2 ⟨y, hy, rfl⟩)
    have HLM := Lib.hid (h.lim.give y.t.name k)
    have HL1 := Lib.hid (fun u' (hb : Below u.heap.size u u') => less1_ok u' y.b _ _ _ _ _ ((h.each y hy).1.below hb (h.each y hy).1.lt) (Nat.le_trans (h.le8 _ _) (by decide)))
    have HL2 := Lib.hid (fun u' (hb : Below u.heap.size u u') => less2_ok u' y.b _ _ _ _ _ ((h.each y hy).1.below hb (h.each y hy).1.lt) (Nat.le_trans (h.le8 _ _) (by decide)))
    cases hc : cnB k with
    | false =>
      have HU := Lib.hid (h.lim.not_ y.t.name hc)
      have hc2 : (decide (k = 1) || decide (k = 2)) = false := hc
      rw [hc2] at HCN
      clear h hf hy hc hc2
      go_enter Try.func14, Try.ntmps14
      go_wp2_with (go_at_call 27; (with_reducible refine (HCN.out _).mono ?_); rintro e u2 ⟨rfl, hb2⟩; have H2 := Lib.hid hb2; clear hb2)
      go_ret
      exact GvQ.zero HG.out HU.out H2.out
    | true =>
      rcases cnB_iff.1 hc with rfl | rfl
      · have HY := Lib.hid hy
        clear h hf hy hc
        go_enter Try.func14, Try.ntmps14
        go_wp2_with (first
          | (go_at_call 27; (with_reducible refine (HCN.out _).mono ?_); rintro e u2 ⟨rfl, hb2⟩; have H2 := Lib.hid hb2; clear hb2)
          | (go_at_call 28; (with_reducible refine (HL1.out _ H2.out).mono ?_); rintro e u3 ⟨⟨rfl, hk3⟩, hb3⟩; have H3 := Lib.hid hk3; have K3 := Lib.hid (Ke.thenOf hb3 H2.out); clear hk3 hb3))
        go_ret
        have hh := HG.out.own HY.out K3.out (U' := gvU U y.t.name 1) (by unfold gvU; rw [cs_1]; exact H3.out) (fun z hz hne => by unfold gvU; exact cs_other (fun e => hne (by rw [HG.out.names hz HY.out e]))) HLM.out
        exact ⟨rfl, hh.1, hh.2⟩
      · have HY := Lib.hid hy
        clear h hf hy hc
        go_enter Try.func14, Try.ntmps14
        go_wp2_with (first
          | (go_at_call 27; (with_reducible refine (HCN.out _).mono ?_); rintro e u2 ⟨rfl, hb2⟩; have H2 := Lib.hid hb2; clear hb2)
          | (go_at_call 28; (with_reducible refine (HL2.out _ H2.out).mono ?_); rintro e u3 ⟨⟨rfl, hk3⟩, hb3⟩; have H3 := Lib.hid hk3; have K3 := Lib.hid (Ke.thenOf hb3 H2.out); clear hk3 hb3))
        go_ret
        have hh := HG.out.own HY.out K3.out (U' := gvU U y.t.name 2) (by unfold gvU; rw [cs_2]; exact H3.out) (fun z hz hne => by unfold gvU; exact cs_other (fun e => hne (by rw [HG.out.names hz HY.out e]))) HLM.out
        exact ⟨rfl, hh.1, hh.2⟩

/-- What Take leaves. -/
structure TkQ (g mb lo hi : Nat) (gs : List GtL) (U : Us) (s : ByteArray) (k : Int) (u : World) (e : Ending) (u' : World) : Prop where
  e : e = .returned (.int .i64 (tkI (gtF (gs.map (·.t)) s) (U s k) k))
  z : Gz u' g mb lo hi gs (tkU (gtF (gs.map (·.t)) s) U s k)
  k : Kg lo hi u u'
theorem TkQ.same {g mb lo hi : Nat} {gs : List GtL} {U : Us} {s : ByteArray} {k n : Int} {u u' : World} (h : Gz u g mb lo hi gs U) (hu : tkI (gtF (gs.map (·.t)) s) (U s k) k = n) (hn : n ≠ 0) (K : Kg lo hi u u') (hz : Gz u' g mb lo hi gs U) : TkQ g mb lo hi gs U s k u (.returned (.int .i64 n)) u' :=
  ⟨by rw [hu], by unfold tkU; rw [hu, if_neg hn]; exact hz, K⟩
set_option maxRecDepth 100000 in
set_option maxHeartbeats 2000000 in
theorem gtake_ok (u : World) (g mb lo hi : Nat) (gs : List GtL) (U : Us) (h : Gz u g mb lo hi gs U) (s : ByteArray) (k : Int) (hs : s.size ≤ 140737488355328) :
    Calls Try.prog 18 #[.pointer (some ⟨g, 0, none⟩), .string s, .int .i64 k] u fun e u' => TkQ g mb lo hi gs U s k u e u' := by
  have c0 : u.cell? ⟨g, 0, none⟩ = some (.map (some mb)) := h.blk.cell 0
  have HG := Lib.hid h
  have HCN := Lib.hid (fun w => counted_ok k w)
  have C0 := Lib.hid (show ∀ u', Below u.heap.size u u' → u'.cell? ⟨g, 0, none⟩ = some (.map (some mb)) from fun u' hb => (h.blk.below hb h.blk.lt).cell 0)
  clear c0
  cases hc : cnB k with
  | false =>
    have HU := Lib.hid (tkI_not (o := gtF (gs.map (·.t)) s) (n := U s k) hc)
    have hc2 : (decide (k = 1) || decide (k = 2)) = false := hc
    rw [hc2] at HCN
    clear h hc hc2
    go_enter Try.func18, Try.ntmps18
    go_wp2_with (go_at_call 27; (with_reducible refine (HCN.out _).mono ?_); rintro e u2 ⟨rfl, hb2⟩; have H2 := Lib.hid hb2; clear hb2)
    go_ret
    exact TkQ.same HG.out HU.out (by decide) (Kg.of H2.out) (HG.out.on H2.out)
  | true =>
    rw [show (decide (k = 1) || decide (k = 2)) = true from hc] at HCN
    rcases h.find s with ⟨hn, hm⟩ | ⟨y, hy, rfl, hf⟩
    · have HL := Lib.hid (fun u' (hb : Below u.heap.size u u') => ((h.on hb).mp.miss hs hm))
      have HU := Lib.hid (show tkI (gtF (gs.map (·.t)) s) (U s k) k = 3 by rw [hn]; exact tkI_none hc)
      clear h hn hm hc
      go_enter Try.func18, Try.ntmps18
      go_wp2_with (go_at_call 27; (with_reducible refine (HCN.out _).mono ?_); rintro e u2 ⟨rfl, hb2⟩; have H2 := Lib.hid hb2; have g0 := C0.out u2 hb2; have hl := HL.out u2 hb2; clear hb2)
      go_ret
      exact TkQ.same HG.out HU.out (by decide) (Kg.of H2.out) (HG.out.on H2.out)
    · have HL := Lib.hid (fun u' (hb : Below u.heap.size u u') => ((h.on hb).mp.hit (s := y.t.name) (b := y.b) (List.mem_map.2 ⟨y, hy, rfl⟩)))
      have HM1 := Lib.hid (fun u' (hb : Below u.heap.size u u') => more1_ok u' y.b _ _ _ _ _ ((h.each y hy).1.below hb (h.each y hy).1.lt) (Nat.le_trans (h.le8 _ _) (by decide)))
      have HM2 := Lib.hid (fun u' (hb : Below u.heap.size u u') => more2_ok u' y.b _ _ _ _ _ ((h.each y hy).1.below hb (h.each y hy).1.lt) (Nat.le_trans (h.le8 _ _) (by decide)))
      rcases cnB_iff.1 hc with rfl | rfl
      · have HY := Lib.hid hy
        have HN := Lib.hid (show (U y.t.name 1 : Int) < y.t.names ↔ ¬ mxT y.t 1 ≤ U y.t.name 1 by have := (h.q y hy); unfold mxT; simp only [if_pos, if_neg, show ¬ ((2 : Int) = 1) from by decide, if_false, if_true]; omega)
        have HF := Lib.hid hf
        have HTK := Lib.hid (tkI_some (t := y.t) (n := U y.t.name 1) (k := 1) rfl)
        by_cases hq : (U y.t.name 1 : Int) < y.t.names
        · have HQ := Lib.hid (show tkI (gtF (gs.map (·.t)) y.t.name) (U y.t.name 1) 1 = 0 by rw [HF.out, HTK.out, if_neg (HN.out.1 hq)])
          rw [decide_eq_true hq, if_pos hq] at HM1
          clear h hf hy hc hq
          go_enter Try.func18, Try.ntmps18
          go_wp2_with (first
            | (go_at_call 27; (with_reducible refine (HCN.out _).mono ?_); rintro e u2 ⟨rfl, hb2⟩; have H2 := Lib.hid hb2; have g0 := C0.out u2 hb2; have hl := HL.out u2 hb2; clear hb2)
            | (go_at_call 32; (with_reducible refine (HM1.out _ H2.out).mono ?_); rintro e u3 ⟨⟨rfl, hk3⟩, hb3⟩; have H3 := Lib.hid hk3; have K3 := Lib.hid (Ke.thenOf hb3 H2.out); clear hk3 hb3))
          go_ret
          have hh := HG.out.own HY.out K3.out (U' := stU U y.t.name 1 (U y.t.name 1 + 1)) (by rw [cs_1]; exact H3.out) (fun z hz hne => cs_other (fun e => hne (by rw [HG.out.names hz HY.out e]))) (by have := HG.out.lim.take y.t.name 1; unfold tkU at this; rw [if_pos HQ.out] at this; exact this)
          exact ⟨by rw [HQ.out]; rfl, by unfold tkU; rw [if_pos HQ.out]; exact hh.1, hh.2⟩
        · have HQ := Lib.hid (show tkI (gtF (gs.map (·.t)) y.t.name) (U y.t.name 1) 1 = 112 by rw [HF.out, HTK.out, if_pos (Decidable.byContradiction fun hh => hq (HN.out.2 hh))])
          rw [decide_eq_false hq, if_neg hq] at HM1
          clear h hf hy hc hq
          go_enter Try.func18, Try.ntmps18
          go_wp2_with (first
            | (go_at_call 27; (with_reducible refine (HCN.out _).mono ?_); rintro e u2 ⟨rfl, hb2⟩; have H2 := Lib.hid hb2; have g0 := C0.out u2 hb2; have hl := HL.out u2 hb2; clear hb2)
            | (go_at_call 32; (with_reducible refine (HM1.out _ H2.out).mono ?_); rintro e u3 ⟨⟨rfl, hk3⟩, hb3⟩; have H3 := Lib.hid hk3; have K3 := Lib.hid (Ke.thenOf hb3 H2.out); clear hk3 hb3))
          go_ret
          have hh := HG.out.own HY.out K3.out (U' := U) H3.out (fun z hz hne => rfl) HG.out.lim
          exact TkQ.same HG.out HQ.out (by decide) hh.2 hh.1
      · have HY := Lib.hid hy
        have HN := Lib.hid (show (U y.t.name 2 : Int) < y.t.visitors ↔ ¬ mxT y.t 2 ≤ U y.t.name 2 by have := (h.q y hy); unfold mxT; simp only [if_pos, if_neg, show ¬ ((2 : Int) = 1) from by decide, if_false, if_true]; omega)
        have HF := Lib.hid hf
        have HTK := Lib.hid (tkI_some (t := y.t) (n := U y.t.name 2) (k := 2) rfl)
        by_cases hq : (U y.t.name 2 : Int) < y.t.visitors
        · have HQ := Lib.hid (show tkI (gtF (gs.map (·.t)) y.t.name) (U y.t.name 2) 2 = 0 by rw [HF.out, HTK.out, if_neg (HN.out.1 hq)])
          rw [decide_eq_true hq, if_pos hq] at HM2
          clear h hf hy hc hq
          go_enter Try.func18, Try.ntmps18
          go_wp2_with (first
            | (go_at_call 27; (with_reducible refine (HCN.out _).mono ?_); rintro e u2 ⟨rfl, hb2⟩; have H2 := Lib.hid hb2; have g0 := C0.out u2 hb2; have hl := HL.out u2 hb2; clear hb2)
            | (go_at_call 32; (with_reducible refine (HM2.out _ H2.out).mono ?_); rintro e u3 ⟨⟨rfl, hk3⟩, hb3⟩; have H3 := Lib.hid hk3; have K3 := Lib.hid (Ke.thenOf hb3 H2.out); clear hk3 hb3))
          go_ret
          have hh := HG.out.own HY.out K3.out (U' := stU U y.t.name 2 (U y.t.name 2 + 1)) (by rw [cs_2]; exact H3.out) (fun z hz hne => cs_other (fun e => hne (by rw [HG.out.names hz HY.out e]))) (by have := HG.out.lim.take y.t.name 2; unfold tkU at this; rw [if_pos HQ.out] at this; exact this)
          exact ⟨by rw [HQ.out]; rfl, by unfold tkU; rw [if_pos HQ.out]; exact hh.1, hh.2⟩
        · have HQ := Lib.hid (show tkI (gtF (gs.map (·.t)) y.t.name) (U y.t.name 2) 2 = 112 by rw [HF.out, HTK.out, if_pos (Decidable.byContradiction fun hh => hq (HN.out.2 hh))])
          rw [decide_eq_false hq, if_neg hq] at HM2
          clear h hf hy hc hq
          go_enter Try.func18, Try.ntmps18
          go_wp2_with (first
            | (go_at_call 27; (with_reducible refine (HCN.out _).mono ?_); rintro e u2 ⟨rfl, hb2⟩; have H2 := Lib.hid hb2; have g0 := C0.out u2 hb2; have hl := HL.out u2 hb2; clear hb2)
            | (go_at_call 32; (with_reducible refine (HM2.out _ H2.out).mono ?_); rintro e u3 ⟨⟨rfl, hk3⟩, hb3⟩; have H3 := Lib.hid hk3; have K3 := Lib.hid (Ke.thenOf hb3 H2.out); clear hk3 hb3))
          go_ret
          have hh := HG.out.own HY.out K3.out (U' := U) H3.out (fun z hz hne => rfl) HG.out.lim
          exact TkQ.same HG.out HQ.out (by decide) hh.2 hh.1
end Go.Proofs.Ytcplebbaiambgaa

/- Configurations that are changed: plain mathematics. -/
namespace Go.Proofs.Ytcplebbaiambgaa
set_option linter.unusedVariables false
set_option maxRecDepth 100000
set_option linter.unusedSimpArgs false

theorem bl_irrefl : ∀ x : List UInt8, Op.bytesLess x x = false
  | [] => rfl
  | a :: x => by
    have ih := bl_irrefl x
    simp only [Op.bytesLess, ih]
    simp
theorem bl_trans : ∀ x y z : List UInt8, Op.bytesLess x y = true → Op.bytesLess y z = true → Op.bytesLess x z = true
  | [], _, [], _, h => by revert h; cases ‹List UInt8› <;> simp [Op.bytesLess]
  | [], _, c :: z, _, _ => by simp [Op.bytesLess]
  | a :: x, [], z, h, _ => by simp [Op.bytesLess] at h
  | a :: x, b :: y, [], _, h => by simp [Op.bytesLess] at h
  | a :: x, b :: y, c :: z, h1, h2 => by
    have ih := bl_trans x y z
    simp only [Op.bytesLess, Bool.or_eq_true, Bool.and_eq_true, decide_eq_true_eq, beq_iff_eq] at h1 h2 ⊢
    rcases h1 with h1 | ⟨rfl, h1⟩
    · rcases h2 with h2 | ⟨rfl, h2⟩
      · exact .inl (by rw [UInt8.lt_iff_toNat_lt] at *; omega)
      · exact .inl h1
    · rcases h2 with h2 | ⟨rfl, h2⟩
      · exact .inl h2
      · exact .inr ⟨rfl, ih h1 h2⟩
theorem ltS_irrefl (a : ByteArray) : ltS a a = false := bl_irrefl _
theorem ltS_trans {a b c : ByteArray} (h : ltS a b = true) (k : ltS b c = true) : ltS a c = true := bl_trans _ _ _ h k
theorem rise_last : ∀ (A : List ByteArray) (l x : ByteArray), rise l (A ++ [x]) = true → ltS l x = true ∧ ∀ y ∈ A, ltS y x = true
  | [], l, x, h => by
    rw [List.nil_append, rise, Bool.and_eq_true, Bool.and_eq_true] at h
    exact ⟨h.1.2, fun y hy => by cases hy⟩
  | a :: A, l, x, h => by
    rw [List.cons_append, rise, Bool.and_eq_true, Bool.and_eq_true] at h
    obtain ⟨k1, k2⟩ := rise_last A a x h.2
    refine ⟨ltS_trans h.1.2 k1, fun y hy => ?_⟩
    rcases List.mem_cons.1 hy with rfl | hy
    · exact k1
    · exact k2 y hy
theorem cfg_twice {c : Cg} {t : Tn} (ht : t ∈ c.tens) : cfgB { c with tens := c.tens ++ [t] } = false := by
  cases h : cfgB { c with tens := c.tens ++ [t] } with
  | false => rfl
  | true =>
    obtain ⟨_, _, _, _, _, h6, _⟩ := cfgB_parts h
    simp only [List.map_append, List.map_cons, List.map_nil] at h6
    have := (rise_last _ _ _ h6).2 t.name (List.mem_map.2 ⟨t, ht, rfl⟩)
    rw [ltS_irrefl] at this
    cases this
theorem cfg_idle0 (a b d : Int) (T : List Tn) : cfgB ⟨a, b, 0, d, T⟩ = false := by
  cases h : cfgB ⟨a, b, 0, d, T⟩ with
  | false => rfl
  | true => obtain ⟨_, _, h3, _⟩ := cfgB_parts h; cases h3
theorem cfg_waitB (b d e : Int) (T : List Tn) : cfgB ⟨1073741825, b, d, e, T⟩ = false := by
  cases h : cfgB ⟨1073741825, b, d, e, T⟩ with
  | false => rfl
  | true => obtain ⟨h1, _⟩ := cfgB_parts h; cases h1
theorem cfg_quota {c : Cg} {t : Tn} (ht : t ∈ c.tens) (h9 : t.visitors = 9) : cfgB c = false := by
  cases h : cfgB c with
  | false => rfl
  | true =>
    obtain ⟨_, _, _, _, _, _, h7⟩ := cfgB_parts h
    obtain ⟨_, h2, _⟩ := tenB_parts (h7 t ht)
    rw [h9] at h2
    cases h2
end Go.Proofs.Ytcplebbaiambgaa

/- An element of an array by value, its place a letter. Nothing of the program is named here. -/
namespace Go.Proofs.Ytcplebbaiambgaa
set_option linter.unusedVariables false
set_option maxRecDepth 100000
set_option linter.unusedSimpArgs false
open Go.RowKit
theorem run_idx {P : Program} (t e : TypeId) (n : Nat) (cs : Array Value) (i : Nat) (v : Value) (h : P.underlying t = some (.array n e)) (ha : ∀ w, (isAgg e).run P w = .ok false w) (hz : ∀ w, (sizeOf e).run P w = .ok 1 w) (hi : i < n) (hv : cs[i]? = some v) (u : World) :
    (Instr.index t (.agg cs) (.int .i64 (i : Int))).run P u = .ok v u := by
  have h2 : (0 ≤ (i : Int) ∧ (i : Int) < (n : Int)) := by omega
  have h3 : ¬ n ≤ i := by omega
  simp [Instr.index, run_underlying h, asIntOf, h2, h3, go_sem, ha, hz, hv]
end Go.Proofs.Ytcplebbaiambgaa
