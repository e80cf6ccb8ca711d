/- strings.Clone, gate.New: their contracts. (Written by gen_gt4.py.) -/
import Derived.Test.YtcplebbaiambgaaG6
import Derived.Test.YtcplebbaiambgaaShelf
import Derived.Test.YtcplebbaiambgaaCg3
namespace Go.Proofs.Ytcplebbaiambgaa
set_option linter.unusedVariables false
set_option maxRecDepth 100000
set_option linter.unusedSimpArgs false
open Go.RowKit

set_option maxRecDepth 100000 in
set_option maxHeartbeats 1000000 in
theorem sclone_ok (s : ByteArray) (w : World) (hs : s.size ≤ 140737488355328) : Calls Try.prog 25 #[.string s] w fun e u' => e = .returned (.string s) ∧ Below w.heap.size w u' := by
  have HI := Lib.hid (fun u => Try.stringslite_Clone s u (by omega))
  go_enter Try.func25, Try.ntmps25
  go_wp2_with (go_at_call 39; refine (HI.out _).mono ?_; rintro e u2 ⟨rfl, hb⟩; have HB := Lib.hid hb; clear hb)
  go_ret
  exact ⟨rfl, HB.out⟩

theorem gke_cell {w w' : World} {mb : Nat} {l : List (ByteArray × Nat)} {a : Addr} {v : Value} (k : Ke [mb] w w') (hm : Mg w mb l) (h : w.cell? a = some v) : w'.cell? a = some v := by
  obtain ⟨es, ck, he⟩ := hm.block
  have hne : a.block ≠ mb := by
    intro e
    unfold World.cell? at h
    rw [e, he] at h
    simp at h
  exact (World.cell?_of_block (w := w) (a := a) (k.block a.block (World.block_lt_of_cell? w _ h) (by simpa using hne))).trans h
theorem Mg.perm {u : World} {mb : Nat} {l m : List (ByteArray × Nat)} (h : Mg u mb l) (p : l.Perm m) : Mg u mb m := by
  obtain ⟨h0, h1, h2, D, h3, h5, h6⟩ := h
  have e := p.length_eq
  exact ⟨e ▸ h0, (p.pairwise_iff (fun {a b} (e : a.1 ≠ b.1) => e.symm)).1 h1, fun x hx => h2 x (p.mem_iff.2 hx), D, e ▸ h3, fun k => by rw [← h5 k]; exact ⟨fun ⟨x, hx, hk⟩ => ⟨x, p.mem_iff.2 hx, hk⟩, fun ⟨x, hx, hk⟩ => ⟨x, p.mem_iff.1 hx, hk⟩⟩, fun x hx => h6 x (p.mem_iff.2 hx)⟩
/-- The names of tenants are unlike. -/
theorem names_new {ts : List Tv} (h : rise ByteArray.empty (ts.map (·.t.name)) = true) {i : Nat} {x : Tv} (hx : ts[i]? = some x) : ∀ y ∈ ts.take i, y.t.name ≠ x.t.name := by
  obtain ⟨hi, e⟩ := List.getElem?_eq_some_iff.1 hx
  have h1 : ts.map (·.t.name) = ((ts.take i).map (·.t.name) ++ [x.t.name]) ++ (ts.drop (i + 1)).map (·.t.name) := by
    have : ts = ts.take i ++ x :: ts.drop (i + 1) := by
      rw [← e, ← List.drop_eq_getElem_cons hi, List.take_append_drop]
    conv => lhs; rw [this]
    simp
  rw [h1] at h
  have h2 := rise_app _ _ _ h
  have h3 := (rise_last _ _ _ h2).2
  intro y hy e1
  have := h3 y.t.name (List.mem_map.2 ⟨y, hy, rfl⟩)
  rw [e1, ltS_irrefl] at this
  cases this

/-- A gate that is being made: what is done so far, the newest first. -/
structure Np (w : World) (g0 : Nat) (cs : Array Value) (mb g : Nat) (gs : List GtL) (u : World) : Prop where
  cf : Bk u g0 24 cs
  l : Below w.heap.size w u
  gt : Bk u g 59 #[.map (some mb)]
  mp : Mg u mb (gs.map fun y => (y.t.name, y.b))
  each : ∀ y ∈ gs, Bk u y.b 67 (y.cs U0) ∧ ON u w.heap.size y.A y.c y.t.nets
  bs : gs.Pairwise (fun x y => x.b ≠ y.b)
  at_ : ∀ y ∈ gs, w.heap.size ≤ y.b ∧ y.b < u.heap.size
  mbl : w.heap.size ≤ mb
theorem Np.on {w u u' : World} {g0 mb g : Nat} {cs : Array Value} {gs : List GtL} (h : Np w g0 cs mb g gs u) (hb : Below u.heap.size u u') : Np w g0 cs mb g gs u' :=
  ⟨h.cf.below hb h.cf.lt, h.l.trans (hb.mono h.l.size), h.gt.below hb h.gt.lt, h.mp.ke (Ke.of hb) (by simp), fun y hy => ⟨(h.each y hy).1.below hb (h.each y hy).1.lt, (h.each y hy).2.on hb⟩, h.bs, fun y hy => ⟨(h.at_ y hy).1, Nat.lt_of_lt_of_le (h.at_ y hy).2 hb.size⟩, h.mbl⟩
/-- One more. -/
theorem Np.put {w u u' : World} {g0 mb g : Nat} {cs : Array Value} {gs : List GtL} {z : GtL} (h : Np w g0 cs mb g gs u) (k : Ke [mb] u u') (hm : Mg u' mb ((z.t.name, z.b) :: gs.map fun y => (y.t.name, y.b)))
    (hz : Bk u z.b 67 (z.cs U0)) (hn : ON u w.heap.size z.A z.c z.t.nets) (hne : ∀ y ∈ gs, y.b ≠ z.b) (hlo : w.heap.size ≤ z.b) : Np w g0 cs mb g (z :: gs) u' := by
  obtain ⟨es, ck, he⟩ := h.mp.block
  refine ⟨h.cf.keM k he, h.l.trans (k.below h.l.size (fun x hx => by obtain rfl := List.mem_singleton.1 hx; exact h.mbl)), h.gt.keM k he, hm, fun y hy => ?_, List.pairwise_cons.2 ⟨fun y hy => (hne y hy).symm, h.bs⟩, fun y hy => ?_, h.mbl⟩
  · rcases List.mem_cons.1 hy with rfl | hy
    · exact ⟨hz.keM k he, hn.keep fun q ds _ hh => hh.keM k he⟩
    · exact ⟨(h.each y hy).1.keM k he, (h.each y hy).2.keep fun q ds _ hh => hh.keM k he⟩
  · rcases List.mem_cons.1 hy with rfl | hy
    · exact ⟨hlo, Nat.lt_of_lt_of_le hz.lt k.size⟩
    · exact ⟨(h.at_ y hy).1, Nat.lt_of_lt_of_le (h.at_ y hy).2 k.size⟩
theorem Np.gz {w u : World} {g0 mb g : Nat} {cs : Array Value} {gs : List GtL} (h : Np w g0 cs mb g gs u) {c : Cg} {ts : List Tv} (hc : cfgB c = true) (hts : c.tens = ts.map (·.t)) (hg : gs.reverse.map (·.t) = ts.map (·.t)) (hlt : ∀ x ∈ ts, ∀ n ∈ x.t.nets, n.addr < 4294967296) : Gz u g mb w.heap.size u.heap.size gs.reverse U0 := by
  obtain ⟨_, _, _, _, _, _, h7⟩ := cfgB_parts hc
  have ht : ∀ y ∈ gs, ∃ x ∈ ts, x.t = y.t := fun y hy => by
    have : y.t ∈ ts.map (·.t) := hg ▸ List.mem_map.2 ⟨y, List.mem_reverse.2 hy, rfl⟩
    obtain ⟨x, hx, e⟩ := List.mem_map.1 this
    exact ⟨x, hx, e⟩
  have hb : ∀ y ∈ gs, tenB y.t = true := fun y hy => by
    obtain ⟨x, hx, e⟩ := ht y hy
    rw [← e]
    exact h7 _ (hts ▸ List.mem_map.2 ⟨x, hx, rfl⟩)
  refine ⟨h.gt, ?_, fun y hy => h.each y (List.mem_reverse.1 hy), ?_, fun y hy => h.at_ y (List.mem_reverse.1 hy), fun y hy => ?_, LimU.start _, fun y hy => ?_⟩
  · refine h.mp.perm ?_
    rw [List.map_reverse]
    exact (List.reverse_perm _).symm
  · exact ((List.reverse_perm gs).pairwise_iff (fun {a b} (e : a.b ≠ b.b) => e.symm)).2 h.bs
  · have := (tenB_parts (hb y (List.mem_reverse.1 hy))).2.2.1
    refine ⟨by omega, ?_⟩
    obtain ⟨x, hx, e⟩ := ht y (List.mem_reverse.1 hy)
    rw [← e]
    exact hlt x hx
  · have h1 := (tenB_parts (hb y (List.mem_reverse.1 hy))).1
    have h2 := (tenB_parts (hb y (List.mem_reverse.1 hy))).2.1
    exact ⟨quo_le h1, quo_le h2⟩

/-- What New leaves. -/
def GnP (C : Bool) (c : List Tn) (w : World) (e : Ending) (w' : World) : Prop := ((C = false ∧ e = .returned (.pointer none)) ∨ (C = true ∧ ∃ g mb gs, e = .returned (.pointer (some ⟨g, 0, none⟩)) ∧ gs.map GtL.t = c ∧ Gz w' g mb w.heap.size w'.heap.size gs U0)) ∧ Below w.heap.size w w'
theorem take_map {ts : List Tv} {i : Nat} {x : Tv} (hx : ts[i]? = some x) : (ts.take (i + 1)).map (·.t) = (ts.take i).map (·.t) ++ [x.t] := by
  obtain ⟨hi, e⟩ := List.getElem?_eq_some_iff.1 hx
  rw [List.take_add_one, hx]
  simp
set_option maxRecDepth 100000 in
set_option maxHeartbeats 8000000 in
theorem gnew_ok (x : Cv) (w : World) (h : RC w x) : Calls Try.prog 12 #[.agg (ccs x)] w (GnP (cfgB x.cg) x.cg.tens w) := by
  have HR := Lib.hid (fun u (hu : Below w.heap.size w u) => right_cfg x u (h.on hu))
  have HRT := Lib.hid h.r
  have HCF := Lib.hid (fun (hc : cfgB x.cg = true) => cfgB_parts hc)
  have HGZ := Lib.hid (show cfgB x.cg = true → ∀ u g0 cs mb g gs, Np w g0 cs mb g gs u → gs.reverse.map GtL.t = x.ts.map (·.t) → Gz u g mb w.heap.size u.heap.size gs.reverse U0 from fun hc u g0 cs mb g gs hn hg => hn.gz hc rfl hg (fun y hy => (h.r.each y hy).lt))
  have HTN := Lib.hid (show x.cg.tens = x.ts.map (·.t) from rfl)
  have HNM := Lib.hid (show cfgB x.cg = true → rise ByteArray.empty (x.ts.map (·.t.name)) = true from fun hc => by have := (cfgB_parts hc).2.2.2.2.2.1; rwa [show x.cg.tens.map (·.name) = x.ts.map (·.t.name) from List.map_map] at this)
  have HNE := Lib.hid (show cfgB x.cg = true → x.ts.length ≤ 8 from fun hc => by have := (cfgB_parts hc).2.2.2.2.1; simpa [Cv.cg] using this)
  have HFW := Lib.hid (show cfgB x.cg = true → ∀ y ∈ x.ts, y.t.nets.length ≤ 4 from fun hc y hy => by have := (tenB_parts ((cfgB_parts hc).2.2.2.2.2.2 y.t (List.mem_map.2 ⟨y, hy, rfl⟩))).2.2.1; omega)
  obtain ⟨C, hC⟩ : ∃ C, cfgB x.cg = C := ⟨_, rfl⟩
  rw [hC] at HR HGZ HNM HNE HFW ⊢
  obtain ⟨tn, htn⟩ : ∃ tn, x.cg.tens = tn := ⟨_, rfl⟩
  rw [htn] at HTN ⊢
  obtain ⟨a0, a1, a2, a3, ts, A, cp⟩ := x
  dsimp only at HTN HGZ HNM HNE HFW HRT
  obtain ⟨n, hn⟩ : ∃ n, ts.length = n := ⟨_, rfl⟩
  have HN := Lib.hid hn
  rw [hn] at HNE
  simp only [ccs, hn] at HR ⊢
  have H1 := Lib.hid (Bx.new w 24 #[.int .i64 a0, .int .i64 a1, .int .i64 a2, .int .i64 a3, .slice A n cp])
  clear h hn hC htn HCF
  have hmm := @run_makeMap Try.prog
  go_enter Try.func12, Try.ntmps12
  cases C with
  | false =>
    go_wp2_with (go_at_call 23; (with_reducible refine (HR.out _ H1.out.l).mono ?_); rintro e u2 ⟨rfl, hb⟩; have H2 := Lib.hid (H1.out.on hb); clear hb)
    go_ret
    exact ⟨.inl ⟨rfl, rfl⟩, H2.out.l⟩
  | true =>
    have HGZ2 := Lib.hid (HGZ.out rfl)
    have HNM2 := Lib.hid (HNM.out rfl)
    have HNE2 := Lib.hid (HNE.out rfl)
    have HFW2 := Lib.hid (HFW.out rfl)
    have hn8 : n ≤ 8 := HNE2.out
    clear HGZ HNM HNE HFW
    go_upto_region 3 with (go_at_call 23; (with_reducible refine (HR.out _ H1.out.l).mono ?_); rintro e u2 ⟨rfl, hb⟩; have H2 := Lib.hid (H1.out.on hb); clear hb)
    obtain ⟨g0, hg0⟩ : ∃ g, w.heap.size = g := ⟨_, rfl⟩
    have HG0 := Lib.hid hg0
    obtain ⟨mb, hmb⟩ : ∃ mb, u2.heap.size = mb := ⟨_, rfl⟩
    have HNP := Lib.hid (show Np w w.heap.size #[.int .i64 a0, .int .i64 a1, .int .i64 a2, .int .i64 a3, .slice A n cp] u2.heap.size (u2.heap.size + 1) [] ((u2.alloc (.map #[] 0)).alloc (.cells #[.map (some u2.heap.size)] 59)) from by
      have hb3 := (Below.refl u2.heap.size u2).alloc (Nat.le_refl _) (.map #[] 0)
      have hsz : (u2.alloc (.map #[] 0)).heap.size = u2.heap.size + 1 := World.size_alloc ..
      have hb4 := hb3.alloc hb3.size (.cells #[.map (some u2.heap.size)] 59)
      have hbk := Bk.new (u2.alloc (.map #[] 0)) 59 #[.map (some u2.heap.size)]
      rw [hsz] at hbk
      exact ⟨H2.out.b.below hb4 H2.out.b.lt, H2.out.l.trans (hb4.mono H2.out.l.size), hbk, (Mg.made u2).ke (Ke.of ((Below.refl _ _).alloc (Nat.le_refl _) _)) (by simp), (fun y hy => by cases hy), .nil, (fun y hy => by cases hy), H2.out.l.size⟩)
    have e4 : ((u2.alloc (.map #[] 0)).alloc (.cells #[.map (some u2.heap.size)] 59)).cell? ⟨w.heap.size, 4, none⟩ = some (.slice A n cp) := HNP.out.cf.cell 4
    rw [hg0, hmb] at HNP
    rw [hmb, hg0] at e4
    rw [hg0]
    clear hg0
    go_wp2_with fail
    go_loopw [15] (fun v15 wr => ∃ (i : Nat) (gs : List GtL), i ≤ n ∧ v15 = .int .i64 (i : Int) ∧ Hid (gs.length ≤ i ∧ gs.reverse.map GtL.t = (ts.take i).map (·.t)) ∧ Hid (Np w g0 #[.int .i64 a0, .int .i64 a1, .int .i64 a2, .int .i64 a3, .slice A n cp] mb (mb + 1) gs wr)) (fun v15 _ => n - (intOf v15).toNat)
    case atStart => exact ⟨0, [], by omega, rfl, Lib.hid ⟨Nat.le_refl _, rfl⟩, HNP⟩
    case round =>
      obtain ⟨i, gs, hi, rfl, HLN, HP⟩ := hrel
      by_cases hi1 : i < n
      · have hi2 : (i : Int) < (n : Int) := by omega
        obtain ⟨b, o, x, rfl, hx, hx1, hc⟩ := HRT.out.at5 i (by rw [HN.out]; exact hi1)
        obtain ⟨c0, c1, c2, c3, c4⟩ := hc wr HP.out.l
        have HX1 := Lib.hid (hx1.on HP.out.l)
        have HNN := Lib.hid (names_new HNM2.out hx)
        have HTM := Lib.hid (take_map hx)
        have HFX := Lib.hid (HFW2.out x (List.mem_of_getElem? hx))
        have HI8 := Lib.hid (show i < 8 by have := HNE2.out; omega)
        obtain ⟨⟨xn, xa, xb, xl, xk⟩, An, cn, Ak, ck⟩ := x
        dsimp only at c0 c1 c2 c3 c4 HNN HTM HFX
        clear hc hx hx1
        go_upto_region 7 with fail
        clear c0 c1 c2 c3 c4
        have HBN := Lib.hid (show Below wr.heap.size wr (wr.alloc (.cells #[.string xn, .int .i64 xa, .int .i64 xb, .slice An xl.length cn, .slice Ak xk.length ck] 45)) from (Below.refl _ _).alloc (Nat.le_refl _) _)
        have HTB := Lib.hid (Bk.new wr 45 #[.string xn, .int .i64 xa, .int .i64 xb, .slice An xl.length cn, .slice Ak xk.length ck])
        have HPN := Lib.hid (HP.out.on HBN.out)
        have HXN := Lib.hid (HX1.out.on HBN.out)
        obtain ⟨v0, hv0⟩ : ∃ v, wr.alloc (.cells #[.string xn, .int .i64 xa, .int .i64 xb, .slice An xl.length cn, .slice Ak xk.length ck] 45) = v := ⟨_, rfl⟩
        obtain ⟨gb, hgb⟩ : ∃ gb, wr.heap.size = gb := ⟨_, rfl⟩
        rw [hv0] at HBN HTB HPN HXN ⊢
        rw [hgb] at HTB ⊢
        clear hv0 hgb
        have HCE := Lib.hid (show ∀ wz, Ke [mb] v0 wz → wz.cell? ⟨mb + 1, 0, none⟩ = some (.map (some mb)) ∧ wz.cell? ⟨gb, 0, none⟩ = some (.string xn) ∧ wz.cell? ⟨gb, 1, none⟩ = some (.int .i64 xa) ∧ wz.cell? ⟨gb, 2, none⟩ = some (.int .i64 xb) ∧ wz.cell? ⟨gb, 3, none⟩ = some (.slice An xl.length cn) from fun wz hk => ⟨gke_cell hk HPN.out.mp (HPN.out.gt.cell 0), gke_cell hk HPN.out.mp (HTB.out.cell 0), gke_cell hk HPN.out.mp (HTB.out.cell 1), gke_cell hk HPN.out.mp (HTB.out.cell 2), gke_cell hk HPN.out.mp (HTB.out.cell 3)⟩)
        try simp only [List.cons_append, List.nil_append]
        refine wp_region_held_drew (S := fun wz => Ke [mb] v0 wz) (by kernel_rfl) ((Ke.refl _ _).drew) (fun hHeld => ?_)
        refine take_at (some 19) (i := 0) (v := ?_) rfl rfl (by kernel_rfl) (by kernel_rfl) (by kernel_rfl) (fun _ _ _ h => h) (Or.inl ⟨by kernel_rfl, ?_⟩) hHeld ?_
        rotate_left
        · intro wz hSw; obtain ⟨m0, m1, m2, m3, m4⟩ := HCE.out wz hSw; go_simp; try (with_reducible rfl)
        try simp only [Act.put, List.setIfInBounds_toArray, List.set_cons_zero, List.set_cons_succ, List.getElem_toArray, List.getElem_cons_succ, List.getElem_cons_zero]
        refine take_at (some 20) (i := 1) (v := ?_) rfl rfl (by kernel_rfl) (by kernel_rfl) (by kernel_rfl) (fun _ _ _ h => h) (Or.inl ⟨by kernel_rfl, ?_⟩) hHeld ?_
        rotate_left
        · intro wz hSw; obtain ⟨m0, m1, m2, m3, m4⟩ := HCE.out wz hSw; go_simp; try (with_reducible rfl)
        try simp only [Act.put, List.setIfInBounds_toArray, List.set_cons_zero, List.set_cons_succ, List.getElem_toArray, List.getElem_cons_succ, List.getElem_cons_zero]
        refine take_at (some 21) (i := 2) (v := ?_) rfl rfl (by kernel_rfl) (by kernel_rfl) (by kernel_rfl) (fun _ _ _ h => h) (Or.inl ⟨by kernel_rfl, ?_⟩) hHeld ?_
        rotate_left
        · intro wz hSw; obtain ⟨m0, m1, m2, m3, m4⟩ := HCE.out wz hSw; go_simp; try (with_reducible rfl)
        try simp only [Act.put, List.setIfInBounds_toArray, List.set_cons_zero, List.set_cons_succ, List.getElem_toArray, List.getElem_cons_succ, List.getElem_cons_zero]
        refine take_at (some 22) (i := 3) (v := ?_) rfl rfl (by kernel_rfl) (by kernel_rfl) (by kernel_rfl) (fun _ _ _ h => h) (Or.inl ⟨by kernel_rfl, ?_⟩) hHeld ?_
        rotate_left
        · intro wz hSw; obtain ⟨m0, m1, m2, m3, m4⟩ := HCE.out wz hSw; go_simp; try (with_reducible rfl)
        try simp only [Act.put, List.setIfInBounds_toArray, List.set_cons_zero, List.set_cons_succ, List.getElem_toArray, List.getElem_cons_succ, List.getElem_cons_zero]
        refine take_at (some 23) (i := 4) (v := ?_) rfl rfl (by kernel_rfl) (by kernel_rfl) (by kernel_rfl) (fun _ _ _ h => h) (Or.inl ⟨by kernel_rfl, ?_⟩) hHeld ?_
        rotate_left
        · intro wz hSw; obtain ⟨m0, m1, m2, m3, m4⟩ := HCE.out wz hSw; go_simp; try (with_reducible rfl)
        try simp only [Act.put, List.setIfInBounds_toArray, List.set_cons_zero, List.set_cons_succ, List.getElem_toArray, List.getElem_cons_succ, List.getElem_cons_zero]
        refine take_at (some 24) (i := 5) (v := ?_) rfl rfl (by kernel_rfl) (by kernel_rfl) (by kernel_rfl) (fun _ _ _ h => h) (Or.inl ⟨by kernel_rfl, ?_⟩) hHeld ?_
        rotate_left
        · intro wz hSw; obtain ⟨m0, m1, m2, m3, m4⟩ := HCE.out wz hSw; go_simp; try (with_reducible rfl)
        try simp only [Act.put, List.setIfInBounds_toArray, List.set_cons_zero, List.set_cons_succ, List.getElem_toArray, List.getElem_cons_succ, List.getElem_cons_zero]
        refine take_at (some 26) (i := 7) (v := ?_) rfl rfl (by kernel_rfl) (by kernel_rfl) (by kernel_rfl) (fun _ _ _ h => h) (Or.inl ⟨by kernel_rfl, ?_⟩) hHeld ?_
        rotate_left
        · intro wz hSw; obtain ⟨m0, m1, m2, m3, m4⟩ := HCE.out wz hSw; go_simp; try (with_reducible rfl)
        try simp only [Act.put, List.setIfInBounds_toArray, List.set_cons_zero, List.set_cons_succ, List.getElem_toArray, List.getElem_cons_succ, List.getElem_cons_zero]
        refine take_at (some 27) (i := 8) (v := ?_) rfl rfl (by kernel_rfl) (by kernel_rfl) (by kernel_rfl) (fun _ _ _ h => h) (Or.inl ⟨by kernel_rfl, ?_⟩) hHeld ?_
        rotate_left
        · intro wz hSw; obtain ⟨m0, m1, m2, m3, m4⟩ := HCE.out wz hSw; go_simp; try (with_reducible rfl)
        try simp only [Act.put, List.setIfInBounds_toArray, List.set_cons_zero, List.set_cons_succ, List.getElem_toArray, List.getElem_cons_succ, List.getElem_cons_zero]
        refine take_at (some 28) (i := 9) (v := ?_) rfl rfl (by kernel_rfl) (by kernel_rfl) (by kernel_rfl) (fun _ _ _ h => h) (Or.inl ⟨by kernel_rfl, ?_⟩) hHeld ?_
        rotate_left
        · intro wz hSw; obtain ⟨m0, m1, m2, m3, m4⟩ := HCE.out wz hSw; go_simp; try (with_reducible rfl)
        try simp only [Act.put, List.setIfInBounds_toArray, List.set_cons_zero, List.set_cons_succ, List.getElem_toArray, List.getElem_cons_succ, List.getElem_cons_zero]
        refine take_at (some 29) (i := 10) (v := ?_) rfl rfl (by kernel_rfl) (by kernel_rfl) (by kernel_rfl) (fun _ _ _ h => h) (Or.inl ⟨by kernel_rfl, ?_⟩) hHeld ?_
        rotate_left
        · intro wz hSw; obtain ⟨m0, m1, m2, m3, m4⟩ := HCE.out wz hSw; go_simp; try (with_reducible rfl)
        try simp only [Act.put, List.setIfInBounds_toArray, List.set_cons_zero, List.set_cons_succ, List.getElem_toArray, List.getElem_cons_succ, List.getElem_cons_zero]
        refine take_at (some 30) (i := 11) (v := ?_) rfl rfl (by kernel_rfl) (by kernel_rfl) (by kernel_rfl) (fun _ _ _ h => h) (Or.inl ⟨by kernel_rfl, ?_⟩) hHeld ?_
        rotate_left
        · intro wz hSw; obtain ⟨m0, m1, m2, m3, m4⟩ := HCE.out wz hSw; go_simp; try (with_reducible rfl)
        try simp only [Act.put, List.setIfInBounds_toArray, List.set_cons_zero, List.set_cons_succ, List.getElem_toArray, List.getElem_cons_succ, List.getElem_cons_zero]
        refine take_at (some 31) (i := 12) (v := ?_) rfl rfl (by kernel_rfl) (by kernel_rfl) (by kernel_rfl) (fun _ _ _ h => h) (Or.inl ⟨by kernel_rfl, ?_⟩) hHeld ?_
        rotate_left
        · intro wz hSw; obtain ⟨m0, m1, m2, m3, m4⟩ := HCE.out wz hSw; go_simp; try (with_reducible rfl)
        try simp only [Act.put, List.setIfInBounds_toArray, List.set_cons_zero, List.set_cons_succ, List.getElem_toArray, List.getElem_cons_succ, List.getElem_cons_zero]
        refine take_at (some 32) (i := 13) (v := ?_) rfl rfl (by kernel_rfl) (by kernel_rfl) (by kernel_rfl) (fun _ _ _ h => h) (Or.inl ⟨by kernel_rfl, ?_⟩) hHeld ?_
        rotate_left
        · intro wz hSw; obtain ⟨m0, m1, m2, m3, m4⟩ := HCE.out wz hSw; go_simp; try (with_reducible rfl)
        try simp only [Act.put, List.setIfInBounds_toArray, List.set_cons_zero, List.set_cons_succ, List.getElem_toArray, List.getElem_cons_succ, List.getElem_cons_zero]
        refine take_at (some 33) (i := 14) (v := ?_) rfl rfl (by kernel_rfl) (by kernel_rfl) (by kernel_rfl) (fun _ _ _ h => h) (Or.inl ⟨by kernel_rfl, ?_⟩) hHeld ?_
        rotate_left
        · intro wz hSw; obtain ⟨m0, m1, m2, m3, m4⟩ := HCE.out wz hSw; go_simp; try (with_reducible rfl)
        try simp only [Act.put, List.setIfInBounds_toArray, List.set_cons_zero, List.set_cons_succ, List.getElem_toArray, List.getElem_cons_succ, List.getElem_cons_zero]
        refine take_at (some 34) (i := 15) (v := ?_) rfl rfl (by kernel_rfl) (by kernel_rfl) (by kernel_rfl) (fun _ _ _ h => h) (Or.inl ⟨by kernel_rfl, ?_⟩) hHeld ?_
        rotate_left
        · intro wz hSw; obtain ⟨m0, m1, m2, m3, m4⟩ := HCE.out wz hSw; go_simp; try (with_reducible rfl)
        try simp only [Act.put, List.setIfInBounds_toArray, List.set_cons_zero, List.set_cons_succ, List.getElem_toArray, List.getElem_cons_succ, List.getElem_cons_zero]
        refine wpAnyH_ready (rs := [6]) (by kernel_rfl) (by simp) (AllReadyH.cons rfl (fun K hK => ?_) AllReadyH.nil)
        rw [if_pos (by kernel_rfl)]
        go_simp
        refine (sclone_ok xn _ HXN.out.sz).mono ?_
        rintro e x1 ⟨rfl, hb1⟩
        try dsimp only
        have hb1 := ((Below.refl v0.heap.size v0).drew).trans hb1
        refine hK.out _ _ ((Ke.of hb1).nil) (fun hHeld => ?_)
        try simp only [Act.put, List.setIfInBounds_toArray, List.set_cons_zero, List.set_cons_succ, List.getElem_toArray, List.getElem_cons_succ, List.getElem_cons_zero]
        refine wpAnyH_ready (rs := [16]) (by kernel_rfl) (by simp) (AllReadyH.cons rfl (fun K hK => ?_) AllReadyH.nil)
        rw [if_pos (by kernel_rfl)]
        go_simp
        refine (cloneN_ok An xl xl.length cn x1 (HXN.out.n.on hb1) HXN.out.fn rfl (by have := HFX.out; omega)).mono ?_
        rintro e x2 ⟨A2, c2, rfl, ho2, hb2⟩
        try dsimp only
        have hb2 := hb1.trans (hb2.mono hb1.size)
        refine hK.out _ _ ((Ke.of hb2).nil) (fun hHeld => ?_)
        try simp only [Act.put, List.setIfInBounds_toArray, List.set_cons_zero, List.set_cons_succ, List.getElem_toArray, List.getElem_cons_succ, List.getElem_cons_zero]
        refine take_at (some 36) (i := 17) (v := ?_) rfl rfl (by kernel_rfl) (by kernel_rfl) (by kernel_rfl) (fun _ _ _ h => h) (Or.inl ⟨by kernel_rfl, ?_⟩) hHeld ?_
        rotate_left
        · intro wz hSw; obtain ⟨m0, m1, m2, m3, m4⟩ := HCE.out wz hSw; go_simp; try (with_reducible rfl)
        try simp only [Act.put, List.setIfInBounds_toArray, List.set_cons_zero, List.set_cons_succ, List.getElem_toArray, List.getElem_cons_succ, List.getElem_cons_zero]
        refine wpAnyH_ready (rs := [18]) (by kernel_rfl) (by simp) (AllReadyH.cons rfl (fun K hK => ?_) AllReadyH.nil)
        rw [if_pos (by kernel_rfl)]
        go_simp
        have hb3 := hb2.alloc hb2.size (.cells #[.int .i64 0, .int .i64 0, .int .i64 0, .int .i64 xa, .int .i64 0, .int .i64 xb, .slice A2 xl.length c2] 67)
        have hk3 := Bk.new x2 67 #[.int .i64 0, .int .i64 0, .int .i64 0, .int .i64 xa, .int .i64 0, .int .i64 xb, .slice A2 xl.length c2]
        have ho3 := ho2.on ((Below.refl x2.heap.size x2).alloc (Nat.le_refl _) (.cells #[.int .i64 0, .int .i64 0, .int .i64 0, .int .i64 xa, .int .i64 0, .int .i64 xb, .slice A2 xl.length c2] 67))
        refine hK.out _ _ ((Ke.of hb3).nil) (fun hHeld => ?_)
        try simp only [Act.put, List.setIfInBounds_toArray, List.set_cons_zero, List.set_cons_succ, List.getElem_toArray, List.getElem_cons_succ, List.getElem_cons_zero]
        refine wpAnyH_ready (rs := [19]) (by kernel_rfl) (by simp) (AllReadyH.cons rfl (fun K hK => ?_) AllReadyH.nil)
        rw [if_pos (by kernel_rfl)]
        have hp3 := HPN.out.on hb3
        refine op_gstore (.tmp 22) (.tmp 25) (.tmp 37) rfl mb (gs.map fun y => (y.t.name, y.b)) xn x2.heap.size rfl rfl rfl hp3.mp (by have h1 := HLN.out.1; have h2 := HI8.out; rw [List.length_map]; omega) HXN.out.sz (fun z hz => ?_) ?_
        · obtain ⟨y, hy, rfl⟩ := List.mem_map.1 hz
          have : y.t ∈ (ts.take i).map (·.t) := HLN.out.2 ▸ List.mem_map.2 ⟨y, List.mem_reverse.2 hy, rfl⟩
          obtain ⟨q, hq, e⟩ := List.mem_map.1 this
          show y.t.name ≠ xn
          rw [← e]
          exact HNN.out q hq
        intro x4 hm4 hk4
        have HFIN := Lib.hid (hp3.put (z := ⟨x2.heap.size, ⟨xn, xa, xb, xl, xk⟩, A2, c2⟩) hk4 hm4 hk3 (ho3.base (Nat.le_trans HPN.out.l.size hb1.size)) (fun y hy e => by have h1 := (HPN.out.at_ y hy).2; have h2 := hb2.size; dsimp only at e; omega) (Nat.le_trans HPN.out.l.size hb2.size))
        refine hK.out _ _ (((Ke.of hb3).nil).trans hk4) (fun hHeld => ?_)
        try simp only [Act.put, List.setIfInBounds_toArray, List.set_cons_zero, List.set_cons_succ, List.getElem_toArray, List.getElem_cons_succ, List.getElem_cons_zero]
        refine wpAnyH_done (by kernel_rfl) ?_ _
        clear hHeld hb1 hb2 hb3 hk3 ho2 ho3 hm4 hk4 hp3
        go_wp2
        go_roundw
        case rel => exact ⟨i + 1, ⟨x2.heap.size, ⟨xn, xa, xb, xl, xk⟩, A2, c2⟩ :: gs, by omega, by go_num, Lib.hid ⟨by rw [List.length_cons]; have := HLN.out.1; omega, by rw [List.reverse_cons, List.map_append, HLN.out.2, HTM.out]; rfl⟩, HFIN⟩
        case measure => simp [intOf]; omega
      · have hi2 : ¬ (i : Int) < (n : Int) := by omega
        have HE := Lib.hid (HGZ2.out wr _ _ _ _ gs HP.out (by rw [HLN.out.2, List.take_of_length_le (by rw [HN.out]; omega)]))
        go_wp2
        go_ret
        exact ⟨.inr ⟨rfl, mb + 1, mb, gs.reverse, rfl, by rw [HLN.out.2, HTN.out, List.take_of_length_le (by rw [HN.out]; omega)], HE.out⟩, HP.out.l⟩
end Go.Proofs.Ytcplebbaiambgaa
