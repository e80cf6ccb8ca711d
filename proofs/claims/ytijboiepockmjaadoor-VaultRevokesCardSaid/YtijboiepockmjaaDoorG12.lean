/- Vt2, Row, Padded, Mac, Build, Hex, Strs, Proof, ConvB: texts of this seat, one behind the other. -/
import Derived.Test.YtijboiepockmjaaDoorG11
import Derived.Test.YtijboiepockmjaaDoorCg3
import Derived.Test.YtijboiepockmjaaDoorG3
import Derived.Test.YtijboiepockmjaaDoorG5
import Derived.Laws.CopyOwn
import Derived.Test.YtijboiepockmjaaDoorRows
import Derived.Deep.QuietTactic
import Derived.BigQuiet
import Derived.Deep.Cut
import Derived.Deep.CutRange
import Derived.Shelf.Strings.Builder1
import Derived.Test.YtijboiepockmjaaDoorShelf
import Derived.Test.YtijboiepockmjaaDoorG6
import Derived.Test.YtijboiepockmjaaDoorG1
import Derived.Laws.IdiomStrings
import Derived.Laws.AppendOwn
/- A vault's memory; vault.New: its contract. -/
namespace Go.Proofs.YtijboiepockmjaaDoor
set_option linter.unusedVariables false
set_option maxRecDepth 100000
set_option linter.unusedSimpArgs false
open Go.RowKit

/-- At v lies a vault of those tenants; g of its tokens are revoked; its map lies at mb. -/
structure Vz (u : World) (v mb : Nat) (x : Cv) (c : List Tn) (g : Rev) : Prop where
  blk : Bk u v 62 #[.int .i64 x.wait, .int .i64 x.grace, .int .i64 x.idle, .int .i64 x.lease, .slice x.A x.ts.length x.c, .map (some mb)]
  rc : RC u x
  mp : Mv u mb g
  few : ∀ y ∈ x.ts, y.t.nets.length ≤ 1099511627776 ∧ y.t.toks.length ≤ 1099511627776
  sec : ∀ a b k, tkN c a b = some k → k.sec.size ≤ 32
  tk : ∀ a b, tkT x.ts a b = tkN c a b
theorem Vz.on {u u' : World} {v mb : Nat} {x : Cv} {c : List Tn} {g : Rev} (h : Vz u v mb x c g) (hb : Below u.heap.size u u') : Vz u' v mb x c g :=
  ⟨h.blk.below hb h.blk.lt, h.rc.on hb, h.mp.ke (Ke.of hb) (by simp), h.few, h.sec, h.tk⟩
/-- Another one's map turned. -/
theorem Vz.other {u u' : World} {v mb m' : Nat} {x : Cv} {c : List Tn} {g g' : Rev} (h : Vz u v mb x c g) (k : Ke [m'] u u') (hm : Mv u m' g') (hne : mb ≠ m') : Vz u' v mb x c g := by
  obtain ⟨es, ck, he⟩ := hm.block
  exact ⟨h.blk.keM k he, h.rc.ke k he, h.mp.ke k (by simpa using hne), h.few, h.sec, h.tk⟩
/-- Its own map turned. -/
theorem Vz.own {u u' : World} {v mb : Nat} {x : Cv} {c : List Tn} {g g' : Rev} (h : Vz u v mb x c g) (k : Ke [mb] u u') (hm : Mv u' mb g') : Vz u' v mb x c g' := by
  obtain ⟨es, ck, he⟩ := h.mp.block
  exact ⟨h.blk.keM k he, h.rc.ke k he, hm, h.few, h.sec, h.tk⟩
def Va (u : World) (v mb : Nat) (c : List Tn) (g : Rev) : Prop := ∃ x, Vz u v mb x c g
theorem Va.on {u u' : World} {v mb : Nat} {c : List Tn} {g : Rev} (h : Va u v mb c g) (hb : Below u.heap.size u u') : Va u' v mb c g := h.imp fun _ h => h.on hb
theorem Va.other {u u' : World} {v mb m' : Nat} {c : List Tn} {g g' : Rev} (h : Va u v mb c g) (k : Ke [m'] u u') (hm : Mv u m' g') (hne : mb ≠ m') : Va u' v mb c g := h.imp fun _ h => h.other k hm hne
theorem Va.mp {u : World} {v mb : Nat} {c : List Tn} {g : Rev} (h : Va u v mb c g) : Mv u mb g := h.elim fun _ h => h.mp

theorem kept_tk {ts ts' : List Tv} (h : ts'.map (·.t) = ts.map (fun y => kpT y.t)) (a b : ByteArray) : tkT ts' a b = tkN (ts.map (·.t)) a b := by
  rw [tkT_is, h, ← tkN_kept (ts.map (·.t)), List.map_map]; rfl

theorem cfg_few {x : Cv} (h : cfgB x.cg = true) : x.ts.length ≤ 1099511626 ∧ ∀ y ∈ x.ts, y.t.toks.length ≤ 1099511627776 := by
  obtain ⟨_, _, _, _, h1, _, h2⟩ := cfgB_parts h
  have h3 : x.ts.length ≤ 8 := by simpa [Cv.cg] using h1
  refine ⟨by omega, fun y hy => ?_⟩
  have := (tenB_parts (h2 y.t (List.mem_map.2 ⟨y, hy, rfl⟩))).2.2.2.2.1
  omega
/-- What New leaves. -/
def VnP (C : Bool) (c : List Tn) (w : World) (e : Ending) (w' : World) : Prop := ((C = false ∧ e = .returned (.pointer none)) ∨ (C = true ∧ ∃ v mb, e = .returned (.pointer (some ⟨v, 0, none⟩)) ∧ Va w' v mb c [] ∧ w.heap.size ≤ v ∧ w.heap.size ≤ mb ∧ v < w'.heap.size)) ∧ Below w.heap.size w w'
set_option maxHeartbeats 2000000 in
theorem vnew_ok (x : Cv) (w : World) (h : RC w x) :
    Calls Tryd.prog 12 #[.agg (ccs x)] w (VnP (cfgB x.cg) x.cg.tens w) := by
  have HR := Lib.hid (fun u (hu : Below w.heap.size w u) => right_cfg x u (h.on hu))
  have HK := Lib.hid (show cfgB x.cg = true → ∀ u (hu : Below w.heap.size w u), _ from fun hc u hu => kept_ok x u (h.on hu) (cfg_few hc).1 (cfg_few hc).2)
  have HSC := Lib.hid (show cfgB x.cg = true → ∀ a b k, tkN x.cg.tens a b = some k → k.sec.size ≤ 32 from fun hc a b k hk => (tkN_till hc hk).2.2.2)
  have HTS := Lib.hid (show x.cg.tens = x.ts.map (·.t) from rfl)
  obtain ⟨C, hC⟩ : ∃ C, cfgB x.cg = C := ⟨_, rfl⟩
  rw [hC] at HR HSC HK ⊢
  obtain ⟨c, hc⟩ : ∃ c, x.cg.tens = c := ⟨_, rfl⟩
  rw [hc] at HSC HTS ⊢
  obtain ⟨a0, a1, a2, a3, ts, A, cp⟩ := x
  dsimp only at HTS HK
  obtain ⟨n, hn⟩ : ∃ n, ts.length = n := ⟨_, rfl⟩
  have HN := Lib.hid hn
  simp only [ccs, hn] at HR HK ⊢
  have H1 := Lib.hid (show Bx w w.heap.size 24 #[.int .i64 a0, .int .i64 a1, .int .i64 a2, .int .i64 a3, .slice A n cp] (w.alloc (.cells #[.int .i64 a0, .int .i64 a1, .int .i64 a2, .int .i64 a3, .slice A n cp] 24)) from Bx.new _ _ _)
  clear h hn hC hc
  have hmm := @run_makeMap Tryd.prog
  go_enter Tryd.func12, Tryd.ntmps12
  cases C with
  | false =>
    go_wp2_with (go_at_call 26; (with_reducible refine (HR.out _ H1.out.l).mono ?_); rintro e u2 ⟨rfl, hb⟩; have H2 := Lib.hid (H1.out.on hb); clear hb)
    go_ret
    exact ⟨.inl ⟨rfl, rfl⟩, H2.out.l⟩
  | true =>
    go_upto_region 3 with (go_at_call 26; (with_reducible refine (HR.out _ H1.out.l).mono ?_); rintro e u2 ⟨rfl, hb⟩; have H2 := Lib.hid (H1.out.on hb); clear hb)
    have e0 : u2.cell? ⟨w.heap.size, 0, none⟩ = some (.int .i64 a0) := H2.out.b.cell 0
    have e1 : u2.cell? ⟨w.heap.size, 1, none⟩ = some (.int .i64 a1) := H2.out.b.cell 1
    have e2 : u2.cell? ⟨w.heap.size, 2, none⟩ = some (.int .i64 a2) := H2.out.b.cell 2
    have e3 : u2.cell? ⟨w.heap.size, 3, none⟩ = some (.int .i64 a3) := H2.out.b.cell 3
    have e4 : u2.cell? ⟨w.heap.size, 4, none⟩ = some (.slice A n cp) := H2.out.b.cell 4
    go_wp2_with (go_at_call 27; (with_reducible refine (HK.out (by first | rfl | trivial) _ H2.out.l).mono ?_); rintro e u3 ⟨ts', A', c', rfl, ht, hrc, hfw, hb⟩; have H3 := Lib.hid (And.intro (H2.out.on hb) (And.intro ht (And.intro hrc hfw))); clear hb ht hrc hfw)
    have hl3 : ts'.length = n := by have := congrArg List.length H3.out.2.1; simp only [List.length_map] at this; exact this.trans HN.out
    have hm := Mv.made u3
    have hb3 := (Below.refl u3.heap.size u3).alloc (Nat.le_refl _) (.map #[] 0)
    have hsz : (u3.alloc (.map #[] 0)).heap.size = u3.heap.size + 1 := World.size_alloc ..
    have hb4 := hb3.alloc hb3.size (.cells #[.int .i64 0, .int .i64 0, .int .i64 0, .int .i64 0, .slice A' n c', .map (some u3.heap.size)] 62)
    have hbk : Bk ((u3.alloc (.map #[] 0)).alloc (.cells #[.int .i64 0, .int .i64 0, .int .i64 0, .int .i64 0, .slice A' n c', .map (some u3.heap.size)] 62)) (u3.heap.size + 1) 62 #[.int .i64 0, .int .i64 0, .int .i64 0, .int .i64 0, .slice A' n c', .map (some u3.heap.size)] := by
      have := Bk.new (u3.alloc (.map #[] 0)) 62 #[.int .i64 0, .int .i64 0, .int .i64 0, .int .i64 0, .slice A' n c', .map (some u3.heap.size)]
      rwa [hsz] at this
    have hz := H3.out.1.l.size
    go_ret
    refine ⟨.inr ⟨rfl, u3.heap.size + 1, u3.heap.size, rfl, ⟨⟨0, 0, 0, 0, ts', A', c'⟩, ?_, H3.out.2.2.1.on hb4, ?_, H3.out.2.2.2, HSC.out (by first | rfl | trivial), fun a b => ?_⟩, by omega, hz, hbk.lt⟩, H3.out.1.l.trans (hb4.mono hz)⟩
    · dsimp only
      rw [hl3]
      exact hbk
    · exact hm.ke (Ke.of ((Below.refl (u3.alloc (.map #[] 0)).heap.size (u3.alloc (.map #[] 0))).alloc (Nat.le_refl _) _)) (by simp)
    · rw [HTS.out]
      exact kept_tk H3.out.2.1 a b
end Go.Proofs.YtijboiepockmjaaDoor

/- A whole array loaded in a region that draws its order. Nothing of the program is named here. -/
namespace Go.Proofs.YtijboiepockmjaaDoor
set_option linter.unusedVariables false
set_option maxRecDepth 100000
set_option linter.unusedSimpArgs false
open Go.RowKit

theorem yieldsIf_load_row {P : Program} {ops : Array Oper} {S : World → Prop} {oi : Oper} {a : Act} (hw : Region.wanted oi (yielded ops a.tmps) = true) (ty : TypeId) (x : Operand) (ho : oi.op = .load ty x)
    (g : Nat) (hx : a.eval x = .pointer (some ⟨g, 0, none⟩)) (t : TypeId) (cs : Array Value) (hS : ∀ w, S w → Bk w g t cs) {d : TypeDesc}
    (hu : P.underlying ty = some d) (hd : (match d with | .struct _ | .array _ _ => true | _ => false) = true) (hi : (P.info? ty).map (·.size) = some cs.size) : YieldsIf P ops S oi (.agg cs) a :=
  .inl ⟨hw, fun w hw' => by
    unfold execOp
    simp only [ho, hx, Instr.loadAt, Instr.sureAddr, Sem.run_bind, Sem.run_pure, Result.andThen_ok, run_loadVar_row w g t ty cs (0, 0) d (hS w hw') hu hd hi]⟩
theorem gen_any2 {P : Program} {md : Region.Mode} {ops : Array Oper} {Q : Exit → Act → World → Prop} {S' : World → Prop} {fuel : Nat} {listed : Array Bool} {a : Act} {w : World} (S : World → Prop) (hS : S w) (h : ∀ u, S u → wpAnyH P md ops Q S' fuel listed a u) : wpAnyH P md ops Q S' fuel listed a w := h w hS
end Go.Proofs.YtijboiepockmjaaDoor

/- mac's keys: filled, padded. (Written by gen_mac.py.) -/
namespace Go.Proofs.YtijboiepockmjaaDoor
set_option linter.unusedVariables false
set_option maxRecDepth 100000
set_option linter.unusedSimpArgs false
open Go.RowKit

theorem Rb.row {w : World} {B g : Nat} {t : TypeId} {l : List UInt8} (h : Bk w g t (bcells l)) (hB : g < B) : Rb w B (some ⟨g, 0, none⟩) l := (Rb.bk h).more hB

set_option maxRecDepth 100000 in
set_option maxHeartbeats 2000000 in
theorem filled_ok (A : Option Addr) (n c : Nat) (l : List UInt8) (w : World) (hl : l.length = n) (hc : n ≤ c) (hmax : c ≤ 9223372036854775807) (hn : n ≤ 1099511627776) (hG : Gl w) (hR : Rb w w.heap.size A l) :
    Calls Tryd.prog 68 #[.slice A n c] w fun e w' => e = .returned (.agg (bcells (keyB l))) ∧ Below w.heap.size w w' := by
  have HL := Lib.hid hl
  have HCP := Lib.hid hc
  have HM := Lib.hid hmax
  have HN := Lib.hid hn
  have HG := Lib.hid hG
  have HR := Lib.hid hR
  clear hl hc hmax hG hR
  by_cases h64 : 64 < n
  · have b1 : (64 : Int) < (n : Int) := by omega
    have HB := Lib.hid h64
    clear h64
    go_enter Tryd.func68, Tryd.ntmps68
    go_upto_region 2 with fail
    refine gen_world (fun u => Bk u w.heap.size 103 (bcells (List.replicate 64 0)) ∧ Bk u (w.heap.size + 1) 103 (bcells (List.replicate 64 0)) ∧ Below w.heap.size w u) ?_ (fun w1 hw1 => ?_)
    · have h1 : Bk (w.alloc (.cells (bcells (List.replicate 64 0)) 103)) w.heap.size 103 (bcells (List.replicate 64 0)) := Bk.new _ _ _
      refine ⟨h1.alloc _, Bk.here ?_, by go_grown⟩
      show _ = (w.heap.push _).size; rw [Array.size_push]
    have HA1 := Lib.hid hw1.1
    have HK1 := Lib.hid hw1.2.1
    have HB1 := Lib.hid hw1.2.2
    clear hw1
    go_wp2_with fail
    refine (sum_ok A n c l _ HL.out HCP.out HM.out HN.out (HG.out.below HB1.out HG.out.size) ((HR.out.below HB1.out (Nat.le_refl _)).more HB1.out.size)).mono ?_
    rintro e w2 ⟨rfl, hb2⟩
    have HA2 := Lib.hid (HA1.out.below hb2 HA1.out.lt)
    have HK2 := Lib.hid (HK1.out.below hb2 HK1.out.lt)
    have HB2 := Lib.hid (HB1.out.trans (hb2.mono HB1.out.size))
    clear hb2 HA1 HK1 HB1
    have HE0 := Lib.hid (show (Tryd.prog.info? 77).map (·.size) = some (bcells (sum l)).size by rw [bcells_size, sum_len]; kernel_rfl)
    have HE1 := Lib.hid (show (bcells (List.replicate 32 0)).size = (bcells (sum l)).size by rw [bcells_size, bcells_size, sum_len, List.length_replicate])
    go_upto_region 4 with (refine wpList_store_row rfl 77 (.tmp 4) (.tmp 9) rfl w2.heap.size _ rfl rfl 77 _ (zeros_new w2) HE0.out HE1.out (bcells_one _) ?_)
    refine gen_world (fun u => Bk u w.heap.size 103 (bcells (List.replicate 64 0)) ∧ Bk u (w.heap.size + 1) 103 (bcells (List.replicate 64 0)) ∧ Bk u w2.heap.size 77 (bcells (sum l)) ∧ Below w.heap.size w u) ⟨(HA2.out.alloc _).setRowFar (by have := HA2.out.lt; omega) _, (HK2.out.alloc _).setRowFar (by have := HK2.out.lt; omega) _, (zeros_new w2).setRow _, Below.setRow (HB2.out.alloc HB2.out.size _) _ HB2.out.size _⟩ (fun w3 hw3 => ?_)
    obtain ⟨g, hg⟩ : ∃ g, g = w2.heap.size := ⟨_, rfl⟩
    rw [← hg] at hw3 ⊢
    have HA3 := Lib.hid hw3.1
    have HK3 := Lib.hid hw3.2.1
    have HS3 := Lib.hid hw3.2.2.1
    have HB3 := Lib.hid hw3.2.2.2
    have HR3 := Lib.hid (Rb.row hw3.2.2.1 hw3.2.2.1.lt)
    clear hw3 HA2 HK2 HB2 hg
    try simp only [List.cons_append, List.nil_append]
    refine wp_region_held_drew (S := fun _ => True) (by kernel_rfl) (trivial) (fun hHeld => ?_)
    refine take_at (some 10) (i := 0) (v := ?_) rfl rfl (by kernel_rfl) (by kernel_rfl) (by kernel_rfl) (fun _ _ _ h => h) (Or.inl ⟨by kernel_rfl, ?_⟩) hHeld ?_
    rotate_left
    · intro wz hSw; go_simp; try (with_reducible rfl)
    try simp only [Act.put, List.setIfInBounds_toArray, List.set_cons_zero, List.set_cons_succ, List.getElem_toArray, List.getElem_cons_succ, List.getElem_cons_zero]
    refine take_at (some 11) (i := 1) (v := ?_) rfl rfl (by kernel_rfl) (by kernel_rfl) (by kernel_rfl) (fun _ _ _ h => h) (Or.inl ⟨by kernel_rfl, ?_⟩) hHeld ?_
    rotate_left
    · intro wz hSw; go_simp; try (with_reducible rfl)
    try simp only [Act.put, List.setIfInBounds_toArray, List.set_cons_zero, List.set_cons_succ, List.getElem_toArray, List.getElem_cons_succ, List.getElem_cons_zero]
    refine wpAnyH_ready (rs := [2]) (by kernel_rfl) (by simp) (AllReadyH.cons rfl (fun K hK => ?_) AllReadyH.nil)
    refine step_copy_splice rfl (.tmp 10) (.tmp 11) 52 52 rfl 5 Tryd.underlying52 (by kernel_rfl) (some ⟨w.heap.size + 1, 0, none⟩) (some ⟨g, 0, none⟩) 64 64 32 32 rfl rfl (w.heap.size + 1) 0 ((List.replicate 64 0).map Go.Proofs.YtijboiepockmjaaDoor.u8) 103 HK3.out.drew ((sum l).map Go.Proofs.YtijboiepockmjaaDoor.u8) (by rw [List.length_map, sum_len]; rfl) (fun hp => ⟨rfl, src_of (HR3.out.below (Below.refl _ _).drew (Nat.le_refl _)) hp⟩) (by rw [List.length_map, List.length_map, sum_len, List.length_replicate]; decide) ?_ (w.heap.size + 1) w3 (Below.refl _ _).drew (Nat.le_refl _) ?_
    · intro v hv
      obtain ⟨x, _, rfl⟩ := List.mem_map.1 hv
      rfl
    intro w4 HC hb4
    rw [show goInt (((sum l).map Go.Proofs.YtijboiepockmjaaDoor.u8).length : Int) = .int .i64 32 by rw [List.length_map, sum_len]; rfl]
    refine hK.out _ _ trivial (fun hHeld => ?_)
    try simp only [Act.put, List.setIfInBounds_toArray, List.set_cons_zero, List.set_cons_succ, List.getElem_toArray, List.getElem_cons_succ, List.getElem_cons_zero]
    refine wpAnyH_done (by kernel_rfl) ?_ _
    have HKS := Lib.hid (show keyB l = sum l ++ List.replicate (64 - (sum l).length) 0 by unfold keyB shortK; rw [if_pos (by rw [HL.out]; exact HB.out)])
    rw [splice_bytes (sum l) 64 (by rw [sum_len]; decide), ← HKS.out] at HC
    obtain ⟨w5, hw5⟩ : ∃ w5, w5 = w4 := ⟨_, rfl⟩
    rw [← hw5] at HC hb4 ⊢
    clear hw5
    have HC5 := Lib.hid (show Bk w5 (w.heap.size + 1) 103 (bcells (keyB l)) from HC.out)
    have HA5 := Lib.hid (show Bk w5 w.heap.size 103 (bcells (List.replicate 64 0)) from HA3.out.below hb4 (Nat.lt_succ_self _))
    have HB5 := Lib.hid (HB3.out.trans (hb4.mono (Nat.le_succ _)))
    clear HC hb4 hHeld
    have HE := Lib.hid (show (Tryd.prog.info? 103).map (·.size) = some (bcells (keyB l)).size by rw [bcells_size, keyB_len]; kernel_rfl)
    have HE2 := Lib.hid (show (bcells (List.replicate 64 0)).size = (bcells (keyB l)).size by rw [bcells_size, bcells_size, keyB_len, List.length_replicate])
    go_wp2_with (first
      | refine wpList_load_row rfl 103 (.tmp 3) rfl (w.heap.size + 1) rfl 103 _ (0, 0) _ HC5.out Tryd.underlying103 rfl HE.out ?_
      | refine wpList_store_row rfl 103 (.tmp 2) (.tmp 16) rfl w.heap.size _ rfl rfl 103 _ HA5.out HE.out HE2.out (bcells_one _) ?_)
    obtain ⟨w9, hw9⟩ : ∃ w9, w9 = w5.setRow w.heap.size (bcells (keyB l)) := ⟨_, rfl⟩
    have HB9 : Bk w9 w.heap.size 103 (bcells (keyB l)) := by rw [hw9]; exact HA5.out.setRow _
    have hbel9 : Below w.heap.size w w9 := by rw [hw9]; exact Below.setRow HB5.out _ (Nat.le_refl _) _
    rw [← hw9]
    refine bodyPost_ret (results_cell_row rfl _ _ w.heap.size 103 _ (0, 0) _ rfl HB9 Tryd.underlying103 rfl HE.out) rfl ?_
    exact ⟨rfl, hbel9⟩
  · have b1 : (n : Int) ≤ 64 := by omega
    have HB := Lib.hid (show n ≤ 64 by omega)
    clear h64
    go_enter Tryd.func68, Tryd.ntmps68
    go_upto_region 2 with fail
    refine gen_world (fun u => Bk u w.heap.size 103 (bcells (List.replicate 64 0)) ∧ Bk u (w.heap.size + 1) 103 (bcells (List.replicate 64 0)) ∧ Below w.heap.size w u) ?_ (fun w1 hw1 => ?_)
    · have h1 : Bk (w.alloc (.cells (bcells (List.replicate 64 0)) 103)) w.heap.size 103 (bcells (List.replicate 64 0)) := Bk.new _ _ _
      refine ⟨h1.alloc _, Bk.here ?_, by go_grown⟩
      show _ = (w.heap.push _).size; rw [Array.size_push]
    have HA3 := Lib.hid hw1.1
    have HK3 := Lib.hid hw1.2.1
    have HB3 := Lib.hid hw1.2.2
    have HR3 := Lib.hid ((HR.out.below hw1.2.2 (Nat.le_refl _)).more hw1.2.2.size)
    clear hw1
    go_upto_region 6 with (refine wpList_copy_splice rfl (.tmp 13) (.tmp 14) 52 52 rfl 5 Tryd.underlying52 (by kernel_rfl) (some ⟨w.heap.size + 1, 0, none⟩) A 64 64 n c rfl rfl (w.heap.size + 1) 0 ((List.replicate 64 0).map Go.Proofs.YtijboiepockmjaaDoor.u8) 103 HK3.out (l.map u8) (by rw [List.length_map, HL.out]; exact (Nat.min_eq_left HB.out).symm) (fun hp => ⟨rfl, src_of HR3.out hp⟩) (by rw [List.length_map, List.length_map, HL.out, List.length_replicate]; have := HB.out; omega) (fun v hv => by obtain ⟨x, _, rfl⟩ := List.mem_map.1 hv; rfl) (w.heap.size + 1) w1 (Below.refl _ _) (Nat.le_refl _) ?_; intro w4 HC hb4; rw [List.length_map])
    have HKS := Lib.hid (show keyB l = l ++ List.replicate (64 - l.length) 0 by unfold keyB shortK; rw [if_neg (by rw [HL.out]; have := HB.out; omega)])
    rw [splice_bytes l 64 (by rw [HL.out]; exact HB.out), ← HKS.out] at HC
    obtain ⟨w5, hw5⟩ : ∃ w5, w5 = w4 := ⟨_, rfl⟩
    rw [← hw5] at HC hb4 ⊢
    clear hw5
    have HC5 := Lib.hid (show Bk w5 (w.heap.size + 1) 103 (bcells (keyB l)) from HC.out)
    have HA5 := Lib.hid (show Bk w5 w.heap.size 103 (bcells (List.replicate 64 0)) from HA3.out.below hb4 (Nat.lt_succ_self _))
    have HB5 := Lib.hid (HB3.out.trans (hb4.mono (Nat.le_succ _)))
    clear HC hb4
    have HE := Lib.hid (show (Tryd.prog.info? 103).map (·.size) = some (bcells (keyB l)).size by rw [bcells_size, keyB_len]; kernel_rfl)
    have HE2 := Lib.hid (show (bcells (List.replicate 64 0)).size = (bcells (keyB l)).size by rw [bcells_size, bcells_size, keyB_len, List.length_replicate])
    go_wp2_with (first
      | refine wpList_load_row rfl 103 (.tmp 3) rfl (w.heap.size + 1) rfl 103 _ (0, 0) _ HC5.out Tryd.underlying103 rfl HE.out ?_
      | refine wpList_store_row rfl 103 (.tmp 2) (.tmp 16) rfl w.heap.size _ rfl rfl 103 _ HA5.out HE.out HE2.out (bcells_one _) ?_)
    obtain ⟨w9, hw9⟩ : ∃ w9, w9 = w5.setRow w.heap.size (bcells (keyB l)) := ⟨_, rfl⟩
    have HB9 : Bk w9 w.heap.size 103 (bcells (keyB l)) := by rw [hw9]; exact HA5.out.setRow _
    have hbel9 : Below w.heap.size w w9 := by rw [hw9]; exact Below.setRow HB5.out _ (Nat.le_refl _) _
    rw [← hw9]
    refine bodyPost_ret (results_cell_row rfl _ _ w.heap.size 103 _ (0, 0) _ rfl HB9 Tryd.underlying103 rfl HE.out) rfl ?_
    exact ⟨rfl, hbel9⟩

set_option maxRecDepth 100000 in
set_option maxHeartbeats 2000000 in
theorem padded_ok (K : List UInt8) (x : UInt8) (A : Option Addr) (n c : Nat) (l : List UInt8) (w : World) (hK : K.length = 64) (hl : l.length = n) (hn : n ≤ 1099511627776) (hR : Rb w w.heap.size A l) (hnil : A = none → n = 0 ∧ c = 0) :
    Calls Tryd.prog 69 #[.agg (bcells K), .int .u8 (x.toNat : Int), .slice A n c] w fun e w' => ∃ A2 c2, e = .returned (.slice A2 (64 + n) c2) ∧ OB w' w.heap.size 5 A2 c2 (K.map (fun k => k ^^^ x) ++ l) ∧ Below w.heap.size w w' := by
  have HK := Lib.hid hK
  have HL := Lib.hid hl
  have HR := Lib.hid hR
  have HNIL := Lib.hid hnil
  have HE := Lib.hid (show (Tryd.prog.info? 103).map (·.size) = some (bcells K).size by rw [bcells_size, hK]; kernel_rfl)
  obtain ⟨m, hm⟩ : ∃ m, m = 64 + n := ⟨_, rfl⟩
  obtain ⟨y1, z1⟩ := iwrap (64 + (n : Int)) m (by omega) (by omega)
  have hmk := fun u : World => mk_empty (P := Tryd.prog) u 52 5 Tryd.underlying52 bytesInfo m (by omega)
  have HM := Lib.hid hm
  have HMB := Lib.hid (show m ≤ 140737488355328 by omega)
  clear hK hl hR hnil hm
  have hX : ∀ x y : UInt8, bits .xor .u8 (x.toNat : Int) (y.toNat : Int) = ((x ^^^ y).toNat : Int) := b_xor
  go_enter Tryd.func69, Tryd.ntmps69
  go_upto_region 2 with fail
  refine gen_world (fun u => Bk u w.heap.size 103 (bcells K) ∧ OB u w.heap.size 5 (some ⟨w.heap.size + 1, 0, none⟩) m [] ∧ Below w.heap.size w u) ?_ (fun w1 hw1 => ?_)
  · have h1 : Bk (w.alloc (.cells (bcells K) 103)) w.heap.size 103 (bcells K) := Bk.new _ _ _
    have h2 := OB.made (B := w.heap.size) (w.alloc (.cells (bcells K) 103)) 5 m (by simp) HMB.out
    rw [World.size_alloc] at h2
    exact ⟨h1.alloc _, h2, by go_grown⟩
  have HA1 := Lib.hid hw1.1
  have HO1 := Lib.hid hw1.2.1
  have HB1 := Lib.hid hw1.2.2
  clear hw1 hmk y1 z1
  go_wp2_with (refine wpList_load_row rfl 103 (.tmp 3) rfl w.heap.size rfl 103 _ (0, 0) _ HA1.out Tryd.underlying103 rfl HE.out ?_)
  go_loopw [15, 7] (fun v15 v7 wr => ∃ (i : Nat) (A2 : Option Addr) (c2 L : Nat), i ≤ 64 ∧ v15 = .int .i64 i ∧ v7 = .slice A2 L c2 ∧ Hid (((K.take i).map (fun k => k ^^^ x)).length = L) ∧ Hid (OB wr w.heap.size 5 A2 c2 ((K.take i).map (fun k => k ^^^ x))) ∧ Hid (Below w.heap.size w wr)) (fun v15 _ _ => 64 - (intOf v15).toNat)
  case atStart => exact ⟨0, _, _, 0, by omega, rfl, rfl, Lib.hid rfl, HO1, HB1⟩
  case round =>
    obtain ⟨i, A2, c2, L, hi, rfl, rfl, HT, HO, HB⟩ := hrel
    clear HA1 HO1 HB1
    by_cases hi1 : i < 64
    · have hi2 : (i : Int) < 64 := by omega
      have hik : i < K.length := by rw [HK.out]; exact hi1
      have HT2 := Lib.hid (show (K.take (i + 1)).map (fun k => k ^^^ x) = (K.take i).map (fun k => k ^^^ x) ++ [K[i] ^^^ x] by rw [List.take_add_one, List.getElem?_eq_getElem hik, List.map_append]; rfl)
      have HI := Lib.hid (fun u : World => run_idx (P := Tryd.prog) 103 5 64 (bcells K) i _ Tryd.underlying103 Tryd.isAgg5 Tryd.sizeOf5 hi1 (bcells_at K i hik) u)
      have HLB := Lib.hid (show ((K.take i).map (fun k => k ^^^ x)).length ≤ 64 by rw [List.length_map, List.length_take]; omega)
      obtain ⟨k, hk⟩ : ∃ k, k = K[i] := ⟨_, rfl⟩
      rw [← hk] at HT2 HI
      clear hk hik
      go_wp2_with (first
        | (refine wpList_index rfl 103 (.tmp 14) (.tmp 15) rfl _ _ (.int .u8 (k.toNat : Int)) rfl rfl (HI.out _) ?_)
        | (at_builtin; refine wp_app rfl (.tmp 18) (.tmp 22) 52 5 rfl Tryd.underlying52 bytesInfo w.heap.size _ _ _ _ rfl HT.out (HO.out.alloc _) [k ^^^ x] _ _ _ _ rfl rfl (Rb.one (w := wr) (c := k ^^^ x) rfl rfl) (by have := HLB.out; rw [List.length_singleton]; omega) (by have := HB.out.size; simp only [World.size_alloc]; omega) ?_; intro A3 c3 w4 ho3 hg3 hb3))
      go_roundw
      case rel =>
        refine ⟨i + 1, A3, c3, _, by omega, by go_num, rfl, Lib.hid (by rw [HT2.out]; simp), Lib.hid (by rw [HT2.out]; exact ho3), Lib.hid ((HB.out.alloc HB.out.size _).trans hb3)⟩
      case measure => simp [intOf]; omega
    · have hi3 : i = 64 := by omega
      have HI3 := Lib.hid (show K.take i = K by rw [List.take_of_length_le]; rw [HK.out]; omega)
      have hi2 : (64 : Int) ≤ (i : Int) := by omega
      rw [HI3.out] at HT HO
      have HKL := Lib.hid (show (K.map (fun k => k ^^^ x)).length = 64 by rw [List.length_map, HK.out])
      clear hi3
      go_wp2_with (at_builtin; refine wp_app_any rfl (.tmp 25) (.tmp 26) 52 5 rfl Tryd.underlying52 bytesInfo w.heap.size _ _ _ _ rfl HT.out HO.out l A n _ _ rfl HL.out HNIL.out ((HR.out.below HB.out (Nat.le_refl _)).more HB.out.size) (by have := HKL.out; have := HL.out; omega) HB.out.size ?_; intro A3 c3 w4 ho3 hg3 hb3)
      go_ret
      refine ⟨A3, c3, ?_, ho3, HB.out.trans hb3⟩
      show Ending.returned (Value.slice A3 (K.length + l.length) c3) = _
      rw [HK.out, HL.out]
end Go.Proofs.YtijboiepockmjaaDoor

/- mac.Mac: the sum of bytes under a key. (Written by gen_mac.py.) -/
namespace Go.Proofs.YtijboiepockmjaaDoor
set_option linter.unusedVariables false
set_option maxRecDepth 100000
set_option linter.unusedSimpArgs false
open Go.RowKit

theorem zeros64_new (w : World) : Bk (w.alloc (.cells #[.int .u8 0, .int .u8 0, .int .u8 0, .int .u8 0, .int .u8 0, .int .u8 0, .int .u8 0, .int .u8 0, .int .u8 0, .int .u8 0, .int .u8 0, .int .u8 0, .int .u8 0, .int .u8 0, .int .u8 0, .int .u8 0, .int .u8 0, .int .u8 0, .int .u8 0, .int .u8 0, .int .u8 0, .int .u8 0, .int .u8 0, .int .u8 0, .int .u8 0, .int .u8 0, .int .u8 0, .int .u8 0, .int .u8 0, .int .u8 0, .int .u8 0, .int .u8 0, .int .u8 0, .int .u8 0, .int .u8 0, .int .u8 0, .int .u8 0, .int .u8 0, .int .u8 0, .int .u8 0, .int .u8 0, .int .u8 0, .int .u8 0, .int .u8 0, .int .u8 0, .int .u8 0, .int .u8 0, .int .u8 0, .int .u8 0, .int .u8 0, .int .u8 0, .int .u8 0, .int .u8 0, .int .u8 0, .int .u8 0, .int .u8 0, .int .u8 0, .int .u8 0, .int .u8 0, .int .u8 0, .int .u8 0, .int .u8 0, .int .u8 0, .int .u8 0] 103)) w.heap.size 103 (bcells (List.replicate 64 0)) := Bk.new w 103 _

set_option maxRecDepth 100000 in
set_option maxHeartbeats 4000000 in
theorem mac_ok (A : Option Addr) (n c : Nat) (key : List UInt8) (A' : Option Addr) (n' c' : Nat) (b : List UInt8) (w : World) (hl : key.length = n) (hc : n ≤ c) (hmax : c ≤ 9223372036854775807) (hn : n ≤ 1099511627776) (hR : Rb w w.heap.size A key)
    (hl' : b.length = n') (hn' : n' ≤ 549755813888) (hR' : Rb w w.heap.size A' b) (hnil : A' = none → n' = 0 ∧ c' = 0) (hG : Gl w) :
    Calls Tryd.prog 51 #[.slice A n c, .slice A' n' c'] w fun e w' => e = .returned (.agg (bcells (macB key b))) ∧ Below w.heap.size w w' := by
  have HL := Lib.hid hl
  have HCP := Lib.hid hc
  have HMX := Lib.hid hmax
  have HN := Lib.hid hn
  have HR := Lib.hid hR
  have HL' := Lib.hid hl'
  have HN' := Lib.hid hn'
  have HR' := Lib.hid hR'
  have HNIL := Lib.hid hnil
  have HG := Lib.hid hG
  obtain ⟨IN, hIN⟩ : ∃ IN, IN = sum (padB key 54 ++ b) := ⟨_, rfl⟩
  have HIN := Lib.hid hIN
  have HIL := Lib.hid (show IN.length = 32 by rw [hIN, sum_len])
  have HMB := Lib.hid (show macB key b = sum ((keyB key).map (fun k => k ^^^ 92) ++ IN) by rw [hIN]; rfl)
  have HPL := Lib.hid (show ((keyB key).map (fun k => k ^^^ 92) ++ IN).length = 96 by rw [List.length_append, List.length_map, keyB_len, HIL.out])
  have HPL1 := Lib.hid (show ((keyB key).map (fun k => k ^^^ 54) ++ b).length = 64 + n' by rw [List.length_append, List.length_map, keyB_len, hl'])
  have HE5 := Lib.hid (show (Tryd.prog.info? 103).map (·.size) = some (bcells (keyB key)).size by rw [bcells_size, keyB_len]; kernel_rfl)
  have HE6 := Lib.hid (show (bcells (List.replicate 64 0)).size = (bcells (keyB key)).size by rw [bcells_size, bcells_size, keyB_len, List.length_replicate])
  have HEI := Lib.hid (show (Tryd.prog.info? 77).map (·.size) = some (bcells IN).size by rw [bcells_size, HIL.out]; kernel_rfl)
  have HEI2 := Lib.hid (show (bcells (List.replicate 32 0)).size = (bcells IN).size by rw [bcells_size, bcells_size, HIL.out, List.length_replicate])
  obtain ⟨OUT, hOUT⟩ : ∃ OUT, OUT = sum ((keyB key).map (fun k => k ^^^ 92) ++ IN) := ⟨_, rfl⟩
  have HOUT := Lib.hid hOUT
  have HEM := Lib.hid (show (Tryd.prog.info? 77).map (·.size) = some (bcells OUT).size by rw [bcells_size, hOUT, sum_len]; kernel_rfl)
  have HEM2 := Lib.hid (show (bcells OUT).size = 32 by rw [bcells_size, hOUT, sum_len])
  rw [HMB.out, ← HOUT.out]
  clear hl hc hmax hR hl' hR' hnil hG hIN hOUT hn hn'
  go_enter Tryd.func51, Tryd.ntmps51
  go_upto_region 1 with fail
  refine gen_world (fun u => Bk u w.heap.size 77 (bcells (List.replicate 32 0)) ∧ Below w.heap.size w u) ⟨zeros_new w, by go_grown⟩ (fun w1 hw1 => ?_)
  have HA1 := Lib.hid hw1.1
  have HB1 := Lib.hid hw1.2
  clear hw1
  go_wp2_with fail
  refine (filled_ok A n c key _ HL.out HCP.out HMX.out HN.out (HG.out.below HB1.out HG.out.size) ((HR.out.below HB1.out (Nat.le_refl _)).more HB1.out.size)).mono ?_
  rintro e w2 ⟨rfl, hb2⟩
  have HA2 := Lib.hid (HA1.out.below hb2 HA1.out.lt)
  have HB2 := Lib.hid (HB1.out.trans (hb2.mono HB1.out.size))
  clear hb2 HA1 HB1
  go_upto_region 2 with (refine wpList_store_row rfl 103 (.tmp 5) (.tmp 9) rfl w2.heap.size _ rfl rfl 103 _ (zeros64_new w2) HE5.out HE6.out (bcells_one _) ?_)
  refine gen_world (fun u => Bk u w.heap.size 77 (bcells (List.replicate 32 0)) ∧ Bk u w2.heap.size 103 (bcells (keyB key)) ∧ Below w.heap.size w u) ⟨(HA2.out.alloc _).setRowFar (by have := HA2.out.lt; omega) _, (zeros64_new w2).setRow _, Below.setRow (HB2.out.alloc HB2.out.size _) _ HB2.out.size _⟩ (fun w3 hw3 => ?_)
  obtain ⟨g1, hg1⟩ : ∃ g, g = w2.heap.size := ⟨_, rfl⟩
  rw [← hg1] at hw3 ⊢
  have HA3 := Lib.hid hw3.1
  have HK3 := Lib.hid hw3.2.1
  have HB3 := Lib.hid hw3.2.2
  have HG1 := Lib.hid (show w.heap.size < g1 by have := HA2.out.lt; omega)
  clear hw3 hg1 HA2 HB2
  go_wp2_with (refine wpList_load_row rfl 103 (.tmp 5) rfl g1 rfl 103 _ (0, 0) _ HK3.out Tryd.underlying103 rfl HE5.out ?_)
  refine (padded_ok (keyB key) 54 A' n' c' b _ (keyB_len _) HL'.out (by have := HN'.out; omega) ((HR'.out.below HB3.out (Nat.le_refl _)).more HB3.out.size) HNIL.out).mono ?_
  rintro e w4 ⟨A2, c2, rfl, ho4, hb4⟩
  have HA4 := Lib.hid (HA3.out.below hb4 HA3.out.lt)
  have HK4 := Lib.hid (HK3.out.below hb4 HK3.out.lt)
  have HB4 := Lib.hid (HB3.out.trans (hb4.mono HB3.out.size))
  have HO4 := Lib.hid ho4
  clear hb4 ho4 HA3 HK3 HB3
  go_wp2_with fail
  refine (sum_ok A2 (64 + n') c2 _ _ HPL1.out (by have := HO4.out.cap; rw [HPL1.out] at this; exact this.1) HO4.out.cap.2 (by have := HN'.out; omega) (HG.out.below HB4.out HG.out.size) HO4.out.rb).mono ?_
  rintro e w5 ⟨rfl, hb5⟩
  rw [show sum ((keyB key).map (fun k => k ^^^ 54) ++ b) = IN from HIN.out.symm]
  have HA5 := Lib.hid (HA4.out.below hb5 HA4.out.lt)
  have HK5 := Lib.hid (HK4.out.below hb5 HK4.out.lt)
  have HB5 := Lib.hid (HB4.out.trans (hb5.mono HB4.out.size))
  clear hb5 HA4 HK4 HB4 HO4
  go_upto_region 3 with (refine wpList_store_row rfl 77 (.tmp 7) (.tmp 14) rfl w5.heap.size _ rfl rfl 77 _ (zeros_new w5) HEI.out HEI2.out (bcells_one _) ?_)
  refine gen_world (fun u => Bk u w.heap.size 77 (bcells (List.replicate 32 0)) ∧ Bk u g1 103 (bcells (keyB key)) ∧ Bk u w5.heap.size 77 (bcells IN) ∧ Below w.heap.size w u) ⟨(HA5.out.alloc _).setRowFar (by have := HA5.out.lt; omega) _, (HK5.out.alloc _).setRowFar (by have := HK5.out.lt; omega) _, (zeros_new w5).setRow _, Below.setRow (HB5.out.alloc HB5.out.size _) _ HB5.out.size _⟩ (fun w6 hw6 => ?_)
  obtain ⟨g2, hg2⟩ : ∃ g, g = w5.heap.size := ⟨_, rfl⟩
  rw [← hg2] at hw6 ⊢
  have HA6 := Lib.hid hw6.1
  have HK6 := Lib.hid hw6.2.1
  have HI6 := Lib.hid hw6.2.2.1
  have HB6 := Lib.hid hw6.2.2.2
  have HG2 := Lib.hid (show w.heap.size < g2 by have := HA5.out.lt; omega)
  clear hw6 hg2 HA5 HK5 HB5
  obtain ⟨S, hS⟩ : ∃ S : World → Prop, S = fun u => (∃ l, Bk u w.heap.size 77 (bcells l) ∧ l.length = 32) ∧ Bk u g1 103 (bcells (keyB key)) ∧ Bk u g2 77 (bcells IN) ∧ Below w.heap.size w u := ⟨_, rfl⟩
  have HS0 := Lib.hid (show S w6.drew by rw [hS]; exact ⟨⟨_, HA6.out.drew, List.length_replicate⟩, HK6.out.drew, HI6.out.drew, HB6.out.drew⟩)
  have HSW := Lib.hid (show ∀ u u', S u → Below u.heap.size u u' → S u' by rw [hS]; exact fun u u' h hb => ⟨let ⟨l, h1, h2⟩ := h.1; ⟨l, h1.below hb h1.lt, h2⟩, h.2.1.below hb h.2.1.lt, h.2.2.1.below hb h.2.2.1.lt, h.2.2.2.trans (hb.mono h.2.2.2.size)⟩)
  have HKX := Lib.hid (show ∀ u, S u → Bk u g1 103 (bcells (keyB key)) by rw [hS]; exact fun u h => h.2.1)
  have HRX := Lib.hid (show ∀ u, S u → Rb u u.heap.size (some ⟨g2, 0, none⟩) IN by rw [hS]; exact fun u h => Rb.row h.2.2.1 h.2.2.1.lt)
  have HAX := Lib.hid (show ∀ u, S u → ∃ l, Bk u w.heap.size 77 (bcells l) ∧ l.length = 32 by rw [hS]; exact fun u h => h.1)
  have HGX := Lib.hid (show ∀ u, S u → Gl u by rw [hS]; exact fun u h => HG.out.below h.2.2.2 HG.out.size)
  have HFIN := Lib.hid (show ∀ u, S u → Bk (u.setRow w.heap.size (bcells OUT)) w.heap.size 77 (bcells OUT) ∧ Below w.heap.size w (u.setRow w.heap.size (bcells OUT)) ∧ S (u.setRow w.heap.size (bcells OUT)) by
    rw [hS]
    rintro u ⟨⟨l, h1, h2⟩, h3, h4, h5⟩
    have hb := Below.setRow h5 w.heap.size (Nat.le_refl _) (bcells OUT)
    exact ⟨h1.setRow _, hb, ⟨OUT, h1.setRow _, by rw [← bcells_size]; exact HEM2.out⟩, h3.setRowFar (by have := HG1.out; omega) _, h4.setRowFar (by have := HG2.out; omega) _, hb⟩)
  clear hS HA6 HK6 HI6 HB6
  try simp only [List.cons_append, List.nil_append]
  refine wp_region_held_drew (S := S) (by kernel_rfl) (HS0.out) (fun hHeld => ?_)
  refine take_at (some 15) (i := 0) (v := ?_) rfl rfl (by kernel_rfl) (by kernel_rfl) (by kernel_rfl) (fun _ _ _ h => h) (Or.inl ⟨by kernel_rfl, ?_⟩) hHeld ?_
  rotate_left
  · intro wz hSw; go_simp; try (with_reducible rfl)
  try simp only [Act.put, List.setIfInBounds_toArray, List.set_cons_zero, List.set_cons_succ, List.getElem_toArray, List.getElem_cons_succ, List.getElem_cons_zero]
  refine take_at (some 16) (i := 1) rfl rfl (by kernel_rfl) (by kernel_rfl) (by kernel_rfl) (fun _ _ _ h => h) (yieldsIf_load_row (by kernel_rfl) 103 (.tmp 5) rfl g1 rfl 103 _ (fun u hu => HKX.out u hu) Tryd.underlying103 rfl HE5.out) hHeld ?_
  try simp only [Act.put, List.setIfInBounds_toArray, List.set_cons_zero, List.set_cons_succ, List.getElem_toArray, List.getElem_cons_succ, List.getElem_cons_zero]
  refine take_at (some 17) (i := 2) (v := ?_) rfl rfl (by kernel_rfl) (by kernel_rfl) (by kernel_rfl) (fun _ _ _ h => h) (Or.inl ⟨by kernel_rfl, ?_⟩) hHeld ?_
  rotate_left
  · intro wz hSw; go_simp; try (with_reducible rfl)
  try simp only [Act.put, List.setIfInBounds_toArray, List.set_cons_zero, List.set_cons_succ, List.getElem_toArray, List.getElem_cons_succ, List.getElem_cons_zero]
  refine wpAnyH_ready (rs := [3]) (by kernel_rfl) (by simp) (AllReadyH.cons rfl (fun K hK => ?_) AllReadyH.nil)
  rw [if_pos (by kernel_rfl)]
  go_simp
  refine (padded_ok (keyB key) 92 (some ⟨g2, 0, none⟩) 32 32 IN _ (keyB_len _) (HIL.out) (by omega) (HRX.out _ hHeld) (by intro h; cases h)).mono ?_
  rintro e w7 ⟨A3, c3, rfl, ho7, hb7⟩
  have HO7 := Lib.hid ho7
  have HS7 := Lib.hid (HSW.out _ _ hHeld hb7)
  clear ho7 hb7 hHeld
  try dsimp only
  refine hK.out _ _ HS7.out (fun hHeld => ?_)
  try simp only [Act.put, List.setIfInBounds_toArray, List.set_cons_zero, List.set_cons_succ, List.getElem_toArray, List.getElem_cons_succ, List.getElem_cons_zero]
  refine wpAnyH_ready (rs := [4]) (by kernel_rfl) (by simp) (AllReadyH.cons rfl (fun K hK => ?_) AllReadyH.nil)
  rw [if_pos (by kernel_rfl)]
  go_simp
  refine (sum_ok A3 96 c3 _ _ (by rw [HPL.out]) (by have := HO7.out.cap; rw [HPL.out] at this; exact this.1) HO7.out.cap.2 (by omega) (HGX.out _ hHeld) HO7.out.rb).mono ?_
  rintro e w8 ⟨rfl, hb8⟩
  rw [show sum ((keyB key).map (fun k => k ^^^ 92) ++ IN) = OUT from HOUT.out.symm]
  have HS8 := Lib.hid (HSW.out _ _ hHeld hb8)
  clear hb8 hHeld
  try dsimp only
  refine hK.out _ _ HS8.out (fun hHeld => ?_)
  try simp only [Act.put, List.setIfInBounds_toArray, List.set_cons_zero, List.set_cons_succ, List.getElem_toArray, List.getElem_cons_succ, List.getElem_cons_zero]
  refine wpAnyH_ready (rs := [5]) (by kernel_rfl) (by simp) (AllReadyH.cons rfl (fun K hK => ?_) AllReadyH.nil)
  rw [if_pos (by kernel_rfl)]
  obtain ⟨lz, hbz, hlz⟩ := HAX.out _ hHeld
  refine wp_store_row 77 (.tmp 4) (.tmp 19) rfl w.heap.size _ rfl rfl 77 _ hbz HEM.out (by rw [bcells_size, hlz]; exact HEM2.out.symm) (bcells_one _) ?_
  try dsimp only
  have HF := Lib.hid (HFIN.out _ hHeld)
  clear hHeld
  refine hK.out _ _ HF.out.2.2 (fun hHeld => ?_)
  try simp only [Act.put, List.setIfInBounds_toArray, List.set_cons_zero, List.set_cons_succ, List.getElem_toArray, List.getElem_cons_succ, List.getElem_cons_zero]
  refine wpAnyH_done (by kernel_rfl) ?_ _
  go_wp2_with fail
  refine bodyPost_ret (results_cell_row rfl _ _ w.heap.size 77 _ (0, 0) _ rfl HF.out.1 Tryd.underlying77 rfl HEM.out) rfl ?_
  exact ⟨rfl, HF.out.2.1⟩
end Go.Proofs.YtijboiepockmjaaDoor

/- A byte put behind a builder that has been written to, or grown. -/
namespace Go.Proofs.YtijboiepockmjaaDoor
set_option linter.unusedVariables false
set_option maxRecDepth 100000
set_option linter.unusedSimpArgs false
open Go.RowKit

/-- The builder at block b holds the bytes l. -/
abbrev Bd (B b : Nat) (l : List UInt8) (w : World) : Prop := Lib.BuilderAt 109 5 B b (.pointer (some ⟨b, 0, none⟩)) (Lib.byteCells l) w

set_option maxRecDepth 100000 in
theorem ccheck_ok (b : Nat) (w : World) (h0 : w.cell? ⟨b, 0, none⟩ = some (.pointer (some ⟨b, 0, none⟩))) :
    Calls Tryd.prog 81 #[.pointer (some ⟨b, 0, none⟩)] w fun e w' => e = .returned (.tuple #[]) ∧ w' = w := by
  obtain ⟨j, hj, _⟩ := Option.map_eq_some_iff.1 (show (Tryd.prog.info? 109).map (·.size) = some 2 by kernel_rfl)
  go_enter Tryd.func81, Tryd.ntmps81
  go_wp2
  rw [Lib.run_neq_ptr_same w _ Tryd.underlying107 hj]
  go_wp2
  go_end0
  exact ⟨rfl, rfl⟩

set_option maxHeartbeats 1000000 in
theorem wbyte_ok (B b : Nat) (l : List UInt8) (c : UInt8) (w : World) (h : Bd B b l w) (hlen : l.length + 1 ≤ 140737488355328) (hBw : B ≤ w.heap.size) :
    Calls Tryd.prog 72 #[.pointer (some ⟨b, 0, none⟩), .int .u8 (c.toNat : Int)] w fun e w' => e = .returned .nilIface ∧ Bd B b (l ++ [c]) w' ∧ Below B w w' := by
  obtain ⟨i0, hi, hz0, hz1, hz2⟩ := info_parts bytesInfo
  obtain ⟨hB, v, hbk, hown, hne⟩ := h
  have hbl : (Lib.byteCells l).length = l.length := Lib.byteCells_length l
  have c0 : w.cell? ⟨b, 0, none⟩ = some (.pointer (some ⟨b, 0, none⟩)) := by rw [Lib.cell_of_heap hbk]; rfl
  have c1 : w.cell? ⟨b, 1, none⟩ = some v := by rw [Lib.cell_of_heap hbk]; rfl
  have hlt : b < w.heap.size := lt_of_block hbk
  go_enter Tryd.func72, Tryd.ntmps72
  go_wp2_with (go_at_call 81; refine (ccheck_ok b w c0).mono ?_)
  rintro e w1 ⟨rfl, rfl⟩
  go_wp2_with (at_builtin; refine wpList_append_own _ rfl _ _ 52 rfl B 5 i0 (.int .u8 0) 1 1 Tryd.underlying52 hi hz0 hz1 hz2 rfl (by decide) _ _ _ rfl (hown.alloc _) ⟨w1.heap.size, 0, none⟩ 1 1 [.int .u8 (c.toNat : Int)] rfl rfl ?c1 ?c2 ?c3 ?c4 ?c5 ?_)
  case c1 =>
    intro j u hj
    match j, hj with
    | 0, hj => simp at hj; subst hj; simp [Addr.add]
  case c2 => intro u hu; simp at hu; subst hu; rfl
  case c3 => unfold maxLen; omega
  case c4 => omega
  case c5 => simp; omega
  intro v' w2 hown' hgrow _
  have hb2 : w2.heap[b]? = some (.cells #[.pointer (some ⟨b, 0, none⟩), v] 109 (0, 0)) := by
    rw [hgrow.block b (by simp; omega) (fun e => hne e.symm), Lib.alloc_old w1 _ b hlt]
    exact hbk
  have d0 : w2.cell? ⟨b, 0, none⟩ = some (.pointer (some ⟨b, 0, none⟩)) := by rw [Lib.cell_of_heap hb2]; rfl
  have d1 : w2.cell? ⟨b, 1, none⟩ = some v := by rw [Lib.cell_of_heap hb2]; rfl
  have f1 : w2.frozen? ⟨b, 1, none⟩ = false := Lib.frozen_of_heap hb2 1
  have hbel2 : Below B w1 w2 := ((Below.refl B w1).alloc hBw _).grown hgrow (by simp; omega) (fun k hk => (hown.lt k hk).1)
  obtain ⟨g, cap, rfl⟩ : ∃ g cap, v' = .slice (some ⟨g, 0, none⟩) (l.length + 1) cap := by
    rcases hown'.2 with ⟨_, h0⟩ | ⟨g, cap, cur, hv, _⟩
    · omega
    · exact ⟨g, cap, hv⟩
  go_wp2
  go_ret
  refine ⟨rfl, ?_, hbel2.setCell (p := ⟨b, 1, none⟩) hB _⟩
  have := Lib.BuilderAt.put (T := 109) (e := 5) hB hb2 (bs' := Lib.byteCells (l ++ [c])) (by rw [Lib.byteCells_append]; simpa [Lib.byteCells] using hown') (by decide)
  simpa using this
end Go.Proofs.YtijboiepockmjaaDoor

/- Hex: bytes in digits. -/
namespace Go.Proofs.YtijboiepockmjaaDoor
set_option linter.unusedVariables false
set_option maxRecDepth 100000
set_option linter.unusedSimpArgs false
open Go.RowKit

def digS : ByteArray := ⟨#[48, 49, 50, 51, 52, 53, 54, 55, 56, 57, 97, 98, 99, 100, 101, 102]⟩
theorem digS_at (q : Nat) (h : q < 16) (hs : q < digS.size) : digS[q] = dig q := by
  have : ∀ m : Fin 16, ∀ h : m.val < digS.size, digS[m.val] = dig m.val := by decide
  exact this ⟨q, h⟩ hs
theorem idx_dig (q : Nat) (h : q < 16) (k : IntKind) (u : World) : (Instr.index 9 (.string digS) (.int k (q : Int))).run Tryd.prog u = .ok (.int .u8 ((dig q).toNat : Int)) u := by
  have hs : digS.size = 16 := rfl
  rw [run_index_string u 9 digS k (q : Int) Tryd.underlying9, dif_pos (by rw [hs]; omega)]
  have e : digS[(q : Int).toNat]'(by rw [hs]; omega) = dig q := digS_at q h (by rw [hs]; exact h)
  rw [e]

set_option maxRecDepth 100000 in
set_option maxHeartbeats 1000000 in
theorem hex_ok (A : Option Addr) (n c : Nat) (l : List UInt8) (w : World) (hl : l.length = n) (hn : n ≤ 1099511627776) (hR : Rb w w.heap.size A l) :
    Calls Tryd.prog 52 #[.slice A n c] w fun e w' => e = .returned (.string ⟨(hexB l).toArray⟩) ∧ Below w.heap.size w w' := by
  have HL := Lib.hid hl
  have HR := Lib.hid hR
  clear hl hR
  obtain ⟨n2, hn2⟩ : ∃ k, k = 2 * n := ⟨_, rfl⟩
  have y1 : 2 * (n : Int) = (n2 : Int) := by omega
  have hn3 : n2 ≤ 281474976710656 := by omega
  clear hn2
  go_enter Tryd.func52, Tryd.ntmps52
  go_wp2_with fail
  refine (Tryd.Builder_Grow_fresh_cap w.heap.size w.heap.size n2 _ (Nat.le_refl _) (heap_alloc_new w _) ?_ (by omega)).mono ?_
  · show _ ≤ (w.heap.push _).size; rw [Array.size_push]; omega
  rintro e w1 ⟨rfl, ⟨hB1, hb1⟩, _⟩
  have HB1 := Lib.hid (show Bd w.heap.size w.heap.size (hexB (l.take 0)) w1 from hB1)
  have Hb1 := Lib.hid (show Below w.heap.size w w1 from (show Below w.heap.size w (w.alloc _) by go_grown).trans hb1)
  clear hB1 hb1 y1 hn3
  go_wp2_with fail
  go_loopw [12] (fun v12 wr => ∃ i : Nat, i ≤ n ∧ v12 = .int .i64 i ∧ Hid (Bd w.heap.size w.heap.size (hexB (l.take i)) wr) ∧ Hid (Below w.heap.size w wr)) (fun v12 _ => n - (intOf v12).toNat)
  case atStart => exact ⟨0, by omega, rfl, HB1, Hb1⟩
  case round =>
    obtain ⟨i, hi, rfl, HB, HBB⟩ := hrel
    clear HB1 Hb1
    by_cases hi1 : i < n
    · have hil : i < l.length := by rw [HL.out]; exact hi1
      obtain ⟨b, o, rfl, hb, hc⟩ : ∃ b o, A = some ⟨b, o, none⟩ ∧ b < w.heap.size ∧ wr.cell? ⟨b, o + i, none⟩ = some (.int .u8 ((l[i]).toNat : Int)) := by
        rcases HR.out with h | ⟨b, o, e, hb, hc⟩
        · subst h; simp at hil
        · exact ⟨b, o, e, hb, (HBB.out.cell (p := ⟨b, o + i, none⟩) hb).trans (hc i hil)⟩
      have HT := Lib.hid (hexB_take l i hil)
      have hlt := (l[i]).toNat_lt
      obtain ⟨x, hx⟩ : ∃ x, x = (l[i]).toNat := ⟨_, rfl⟩
      rw [← hx] at hc HT hlt
      clear hx
      obtain ⟨q, hq⟩ : ∃ q, q = x / 16 := ⟨_, rfl⟩
      obtain ⟨r, hr⟩ : ∃ r, r = x % 16 := ⟨_, rfl⟩
      have e1 : (x : Int) / 16 = (q : Int) := by omega
      have e2 : (x : Int) % 16 = (r : Int) := by omega
      have e3 : (q : Int) % 256 = (q : Int) := by omega
      have e4 : (r : Int) % 256 = (r : Int) := by omega
      have HQ := Lib.hid (show q < 16 by omega)
      have HRR := Lib.hid (show r < 16 by omega)
      rw [← hq, ← hr] at HT
      have HLEN := Lib.hid (show (hexB (l.take i)).length + 2 ≤ 140737488355328 by rw [hexB_len, List.length_take]; omega)
      have HSZ := Lib.hid HBB.out.size
      clear hq hr hlt
      go_wp2_with (refine wpList_index rfl 9 (.const (.string digS)) (.tmp 17) rfl _ _ _ rfl rfl (idx_dig q HQ.out _ _) ?_)
      refine (wbyte_ok w.heap.size w.heap.size _ (dig q) _ HB.out (by have := HLEN.out; omega) HSZ.out).mono ?_
      rintro e w2 ⟨rfl, hB2, hb2⟩
      have HB2 := Lib.hid hB2
      have HBB2 := Lib.hid (HBB.out.trans hb2)
      have HSZ2 := Lib.hid HBB2.out.size
      clear hB2 hb2
      go_wp2_with (refine wpList_index rfl 9 (.const (.string digS)) (.tmp 21) rfl _ _ (.int .u8 ((dig r).toNat : Int)) rfl rfl (by first | exact idx_dig r HRR.out _ _ | (rw [e2]; exact idx_dig r HRR.out _ _) | (rw [e2, e4]; exact idx_dig r HRR.out _ _)) ?_)
      refine (wbyte_ok w.heap.size w.heap.size _ (dig r) _ HB2.out (by have := HLEN.out; rw [List.length_append, List.length_singleton]; omega) HSZ2.out).mono ?_
      rintro e w3 ⟨rfl, hB3, hb3⟩
      have HB3 := Lib.hid (show Bd w.heap.size w.heap.size (hexB (l.take (i + 1))) w3 by rw [HT.out]; exact hB3)
      have HBB3 := Lib.hid (HBB2.out.trans hb3)
      clear hB3 hb3
      go_wp2_with fail
      go_roundw
      case rel => exact ⟨i + 1, by omega, by go_num, HB3, HBB3⟩
      case measure => simp [intOf]; omega
    · have HI := Lib.hid (show l.take i = l by rw [List.take_of_length_le]; rw [HL.out]; omega)
      go_wp2_with fail
      refine (Tryd.Builder_String_any w.heap.size w.heap.size (hexB l) _ (Or.inr (by have := HB.out; rw [HI.out] at this; exact this)) HBB.out.size).mono ?_
      rintro e w2 ⟨rfl, hb2⟩
      go_wp2_with fail
      go_ret
      exact ⟨rfl, HBB.out.trans hb2⟩
end Go.Proofs.YtijboiepockmjaaDoor

/- Slices of texts that came in. Nothing of the program is named here. -/
namespace Go.Proofs.YtijboiepockmjaaDoor
set_option linter.unusedVariables false
set_option maxRecDepth 100000
set_option linter.unusedSimpArgs false
open Go.ChangeShapes Go.WideShapes Go.ChangeAt Go.RowKit

/-- A slice of texts that came in. -/
structure InS (W : World) (A : Option Addr) (l : List ByteArray) (n c : Nat) : Prop where
  len : l.length = n
  cap : n ≤ c
  max : c ≤ maxLen
  at_ : n = 0 ∨ ∃ b o, A = some ⟨b, o, none⟩ ∧ b < W.heap.size ∧ ∀ i, (h : i < l.length) → W.cell? ⟨b, o + i, none⟩ = some (.string l[i])
  small : ∀ x ∈ l, x.size ≤ maxLen

theorem open_strs {H : Type} {enc : TypeId × Value → H} {P : Program} {W : World} {A : Option Addr} {n c : Nat} {t e : TypeId} {d : DataW H} {p : List MemPlace} (ht : P.underlying t = some (.slice e)) (he : P.underlying e = some .string) (hc : P.cellsOf e = 1)
    (h : DataW.Trod enc P W 0 (fun _ => true) true t (.slice A n c) d p) : ∃ l, InS W A l n c := by
  obtain ⟨fuel, hf⟩ := h
  rcases open_strings ht he hc hf with ⟨hcs, _⟩ | ⟨x, ln, cp, ss, hcs, _, hl, hm, hz, _, hcell, hws⟩
  · simp [Value.cells] at hcs
    obtain ⟨rfl, rfl, rfl⟩ := hcs
    exact ⟨[], ⟨rfl, Nat.le_refl _, by unfold maxLen; omega, .inl rfl, fun x hx => by cases hx⟩⟩
  · simp [Value.cells] at hcs
    obtain ⟨rfl, rfl, rfl⟩ := hcs
    have hzl : ss.length = c := by simpa using hz
    refine ⟨ss.take n, ⟨by rw [List.length_take]; omega, hl, hm, ?_, fun y hy => hws y (List.mem_of_mem_take hy)⟩⟩
    by_cases h0 : n = 0
    · exact .inl h0
    · right
      obtain ⟨b, o, spot⟩ := x
      have hc0 := hcell 0 (by omega)
      have hspot : spot = none := by simpa [Addr.add] using World.cell?_spot hc0
      subst hspot
      refine ⟨b, o, rfl, ?_, fun i hi => ?_⟩
      · have := World.block_lt_of_cell? W _ hc0
        rw [add_plain] at this
        exact this
      · have hi' : i < ss.length := by rw [List.length_take] at hi; omega
        have := hcell i hi'
        rw [add_plain] at this
        rw [this]
        simp [List.getD, hi']

end Go.Proofs.YtijboiepockmjaaDoor

/- mac.Proof: the proof of words. -/
namespace Go.Proofs.YtijboiepockmjaaDoor
set_option linter.unusedVariables false
set_option maxRecDepth 100000
set_option linter.unusedSimpArgs false
open Go.RowKit

theorem textB_none (s : ByteArray) (h : 255 < s.size) : textB s = [] := by unfold textB; rw [if_neg (by omega)]
theorem textB_some (s : ByteArray) (h : s.size ≤ 255) : (textB s).length = s.size + 1 := by
  unfold textB; rw [if_pos h, List.length_cons]; rfl
theorem proofB_long (key : List UInt8) (ws : List ByteArray) (i : Nat) (h : i < ws.length) (h2 : 255 < ws[i].size) : proofB key ws = [] := by
  unfold proofB; rw [if_neg]
  intro h3
  have := h3 ws[i] (List.getElem_mem h)
  omega
theorem proofB_short (key : List UInt8) (ws : List ByteArray) (h : ∀ j, (hj : j < ws.length) → ws[j].size ≤ 255) : proofB key ws = hexB (macB key (textsB ws)) := by
  unfold proofB; rw [if_pos]
  intro x hx
  obtain ⟨j, hj, rfl⟩ := List.mem_iff_getElem.1 hx
  exact h j hj
theorem textsB_part (ws : List ByteArray) (i : Nat) : (textsB (ws.take i)).length ≤ (textsB ws).length := by
  have : textsB ws = textsB (ws.take i) ++ textsB (ws.drop i) := by
    unfold textsB; rw [← List.flatten_append, ← List.map_append, List.take_append_drop]
  rw [this, List.length_append]; omega

/-- A slice of texts, at any world. -/
def Rs (w : World) (B : Nat) (A : Option Addr) (l : List ByteArray) : Prop :=
  l = [] ∨ ∃ b o, A = some ⟨b, o, none⟩ ∧ b < B ∧ ∀ i, (h : i < l.length) → w.cell? ⟨b, o + i, none⟩ = some (.string l[i])
theorem Rs.below {w w' : World} {B B' : Nat} {A : Option Addr} {l : List ByteArray} (h : Rs w B A l) (hb : Below B' w w') (hB : B ≤ B') : Rs w' B A l := by
  rcases h with h | ⟨b, o, e, hlt, hc⟩
  · exact .inl h
  · exact .inr ⟨b, o, e, hlt, fun i hi => (hb.cell (p := ⟨b, o + i, none⟩) (by show b < B'; omega)).trans (hc i hi)⟩
theorem Rs.more {w : World} {B B' : Nat} {A : Option Addr} {l : List ByteArray} (h : Rs w B A l) (hB : B ≤ B') : Rs w B' A l := by
  rcases h with h | ⟨b, o, e, hlt, hc⟩
  · exact .inl h
  · exact .inr ⟨b, o, e, by omega, hc⟩
theorem InS.rs {W : World} {A : Option Addr} {l : List ByteArray} {n c : Nat} (h : InS W A l n c) : Rs W W.heap.size A l := by
  rcases h.at_ with h0 | ⟨b, o, e, hb, hc⟩
  · left; exact List.eq_nil_of_length_eq_zero (by rw [h.len, h0])
  · exact .inr ⟨b, o, e, hb, hc⟩

set_option maxRecDepth 100000 in
set_option maxHeartbeats 4000000 in
theorem proof_ok (A : Option Addr) (n c : Nat) (key : List UInt8) (A' : Option Addr) (n' c' : Nat) (ws : List ByteArray) (w : World) (hl : key.length = n) (hc : n ≤ c) (hmax : c ≤ 9223372036854775807) (hn : n ≤ 1099511627776) (hR : Rb w w.heap.size A key)
    (hl' : ws.length = n') (hn' : n' ≤ 1099511627776) (hR' : Rs w w.heap.size A' ws) (hsm : ∀ x ∈ ws, x.size ≤ 140737488355328) (htx : (textsB ws).length ≤ 549755813888) (hG : Gl w) :
    Calls Tryd.prog 36 #[.slice A n c, .slice A' n' c'] w fun e w' => e = .returned (.string ⟨(proofB key ws).toArray⟩) ∧ Below w.heap.size w w' := by
  have HL := Lib.hid hl
  have HCP := Lib.hid hc
  have HMX := Lib.hid hmax
  have HN := Lib.hid hn
  have HR := Lib.hid hR
  have HL' := Lib.hid hl'
  have HR' := Lib.hid hR'
  have HSM := Lib.hid hsm
  have HTX := Lib.hid htx
  have HG := Lib.hid hG
  clear hl hc hmax hn hR hl' hR' hsm htx hG
  go_enter Tryd.func36, Tryd.ntmps36
  go_wp2_with fail
  go_loopw [12, 5] (fun v12 v5 wr => ∃ (i : Nat) (A2 : Option Addr) (c2 L : Nat), i ≤ n' ∧ v12 = .int .i64 i ∧ v5 = .slice A2 L c2 ∧ Hid ((textsB (ws.take i)).length = L) ∧ Hid (∀ j, (hj : j < ws.length) → j < i → ws[j].size ≤ 255) ∧ Hid (OB wr w.heap.size 5 A2 c2 (textsB (ws.take i))) ∧ Hid (A2 = none → L = 0 ∧ c2 = 0) ∧ Hid (Below w.heap.size w wr)) (fun v12 _ _ => n' - (intOf v12).toNat)
  case atStart => exact ⟨0, none, 0, 0, by omega, rfl, rfl, Lib.hid rfl, Lib.hid (fun j _ h => by omega), Lib.hid (OB.nil _ _ _), Lib.hid (fun _ => ⟨rfl, rfl⟩), Lib.hid (by go_grown)⟩
  case round =>
    obtain ⟨i, A2, c2, L, hi, rfl, rfl, HT, HJ, HO, HNL, HB⟩ := hrel
    by_cases hi1 : i < n'
    · have hi2 : (i : Int) < (n' : Int) := by omega
      have hiw : i < ws.length := by rw [HL'.out]; exact hi1
      obtain ⟨b, o, rfl, hcell⟩ : ∃ b o, A' = some ⟨b, o, none⟩ ∧ wr.cell? ⟨b, o + i, none⟩ = some (.string ws[i]) := by
        rcases HR'.out with h | ⟨b, o, e, hb, hc⟩
        · subst h; simp at hiw
        · exact ⟨b, o, e, (HB.out.cell (p := ⟨b, o + i, none⟩) hb).trans (hc i hiw)⟩
      have HT2 := Lib.hid (textsB_take ws i hiw)
      have HS := Lib.hid (HSM.out ws[i] (List.getElem_mem hiw))
      have HLB := Lib.hid (textsB_part ws (i + 1))
      have HLG := Lib.hid (fun h => proofB_long key ws i hiw h)
      have HJ2 := Lib.hid (show ∀ s : ByteArray, s = ws[i] → s.size ≤ 255 → ∀ j, (hj : j < ws.length) → j < i + 1 → ws[j].size ≤ 255 by
        intro s hs hs2 j hj hji
        by_cases e : j = i
        · subst e; rw [← hs]; exact hs2
        · exact HJ.out j hj (by omega))
      obtain ⟨s, hs⟩ : ∃ s, s = ws[i] := ⟨_, rfl⟩
      rw [← hs] at hcell HT2 HS HLG
      have HJ3 := Lib.hid (HJ2.out s hs)
      clear hs HJ2 hiw
      by_cases hs : s.size ≤ 255
      · have HTL := Lib.hid (textB_some s hs)
        have hts : 0 < (textB s).length := by rw [HTL.out]; omega
        have HTP := Lib.hid hts
        obtain ⟨M, hM⟩ : ∃ M, M = s.size + 1 := ⟨_, rfl⟩
        have HM := Lib.hid hM
        have HMP := Lib.hid (show ((M : Int) == 0) = false by rw [beq_eq_false_iff_ne]; omega)
        have hmp := HMP.out
        have hmp2 : 0 < M := by omega
        rw [← hM] at HTL
        have HSS := Lib.hid hs
        clear hts hM hs
        go_wp2_with fail
        refine (text_ok s _ HS.out).mono ?_
        rintro e w2 ⟨A3, c3, rfl, ho, hb⟩
        rw [HTL.out]
        have HO3 := Lib.hid ho
        have HB3 := Lib.hid hb
        have HA3 := Lib.hid (show A3 = none → M = 0 ∧ c3 = 0 by
          intro h
          obtain ⟨g, e, _⟩ := ho.form (by intro h0; have := HTP.out; rw [h0] at this; simp at this)
          rw [h] at e; cases e)
        have HOO := Lib.hid (show OB w2 w.heap.size 5 A2 c2 (textsB (ws.take i)) from by
          refine ⟨HO.out.1, ?_⟩
          rcases HO.out.2 with hn | ⟨g, cap, cur, hv, hg, hh, r⟩
          · exact .inl hn
          · refine .inr ⟨g, cap, cur, hv, hg, ?_, r⟩
            rw [hb.block g (lt_of_block hh)]
            exact hh)
        clear ho hb
        go_wp2_with (at_builtin; refine wp_app_any rfl (.tmp 21) (.tmp 22) 52 5 rfl Tryd.underlying52 bytesInfo w.heap.size _ _ _ _ rfl HT.out HOO.out (textB s) A3 M _ _ rfl HTL.out HA3.out HO3.out.rb (by have h1 := HLB.out; have h2 := HTX.out; rw [HT2.out, List.length_append] at h1; omega) (by have h1 := HB.out.size; have h2 := HB3.out.size; omega) ?_; intro A4 c4 w4 ho4 hg4 hb4)
        go_roundw
        case rel =>
          refine ⟨i + 1, A4, c4, _, by omega, by go_num, rfl, Lib.hid (by rw [HT2.out]; simp), Lib.hid (HJ3.out HSS.out), Lib.hid (by rw [HT2.out]; exact ho4), Lib.hid ?_, Lib.hid ((HB.out.trans (HB3.out.mono HB.out.size)).trans hb4)⟩
          intro h
          obtain ⟨g, e, _⟩ := ho4.form (by intro h0; have h1 := congrArg List.length h0; rw [List.length_append, HTL.out] at h1; simp at h1; omega)
          rw [h] at e; cases e
        case measure => simp [intOf]; omega
      · have HTL := Lib.hid (textB_none s (by omega))
        have HP := Lib.hid (HLG.out (by omega))
        clear hs HLG HJ3
        go_wp2_with fail
        refine (text_ok s _ HS.out).mono ?_
        rintro e w2 ⟨A3, c3, rfl, ho, hb⟩
        rw [HTL.out]
        have HB3 := Lib.hid hb
        clear hb ho
        go_wp2_with fail
        go_ret
        exact ⟨by rw [HP.out]; rfl, HB.out.trans (HB3.out.mono HB.out.size)⟩
    · have hi3 : i = n' := by omega
      have hi2 : (n' : Int) ≤ (i : Int) := by omega
      have HI3 := Lib.hid (show ws.take i = ws by rw [List.take_of_length_le]; rw [HL'.out]; omega)
      have HPS := Lib.hid (proofB_short key ws (fun j hj => HJ.out j hj (by rw [HL'.out] at hj; omega)))
      rw [HI3.out] at HT HO
      have HLL := Lib.hid (show L ≤ 549755813888 by rw [← HT.out]; exact HTX.out)
      clear hi3
      have HZE := Lib.hid (show (Tryd.prog.info? 77).map (·.size) = some (bcells (macB key (textsB ws))).size by rw [bcells_size, macB_len]; kernel_rfl)
      have HZE2 := Lib.hid (show (bcells (List.replicate 32 0)).size = (bcells (macB key (textsB ws))).size by rw [bcells_size, bcells_size, macB_len, List.length_replicate])
      go_wp2_with fail
      refine (mac_ok A n c key A2 L c2 (textsB ws) _ HL.out HCP.out HMX.out HN.out ((HR.out.below HB.out (Nat.le_refl _)).more HB.out.size) HT.out HLL.out HO.out.rb HNL.out (HG.out.below HB.out HG.out.size)).mono ?_
      rintro e w2 ⟨rfl, hb2⟩
      have HB2 := Lib.hid (HB.out.trans (hb2.mono HB.out.size))
      clear hb2
      go_upto_region 11 with (refine wpList_store_row rfl 77 (.tmp 9) (.tmp 27) rfl w2.heap.size _ rfl rfl 77 _ (zeros_new w2) HZE.out HZE2.out (bcells_one _) ?_)
      refine gen_world (fun u => Bk u w2.heap.size 77 (bcells (macB key (textsB ws))) ∧ Below w.heap.size w u) ⟨(zeros_new w2).setRow _, Below.setRow (HB2.out.alloc HB2.out.size _) _ HB2.out.size _⟩ (fun w3 hw3 => ?_)
      have HK3 := Lib.hid hw3.1
      have HB3 := Lib.hid hw3.2
      clear hw3
      go_wp2_with fail
      refine (hex_ok (some ⟨w2.heap.size, 0, none⟩) 32 32 (macB key (textsB ws)) _ (macB_len _ _) (by omega) (Rb.row HK3.out HK3.out.lt)).mono ?_
      rintro e w4 ⟨rfl, hb4⟩
      go_wp2_with fail
      go_ret
      exact ⟨by rw [HPS.out]; rfl, HB3.out.trans (hb4.mono HB3.out.size)⟩
end Go.Proofs.YtijboiepockmjaaDoor

/- A text as bytes anew. -/
namespace Go.Proofs.YtijboiepockmjaaDoor
set_option linter.unusedVariables false
set_option maxRecDepth 100000
set_option linter.unusedSimpArgs false
open Go.RowKit

theorem conv_back (B : ByteArray) (hB : B.size ≤ 1099511627776) (w : World) : ∃ (cap : Nat) (ob : Obj), (convert 9 52 (.string B)).run Tryd.prog w = .ok (.slice (some ⟨w.heap.size, 0, none⟩) B.size cap) (w.drew.alloc ob) ∧ B.size ≤ cap ∧ cap ≤ 9223372036854775807 ∧ Rb (w.drew.alloc ob) (w.drew.alloc ob).heap.size (some ⟨w.heap.size, 0, none⟩) B.data.toList := by
  refine ⟨_, _, run_bytes_of_string w 9 52 5 B Tryd.underlying9 Tryd.underlying52 Tryd.underlying5, grownCap_ge _ _ _ _, ?_, ?_⟩
  · have h := grownCap_le_maxLen w B.size 0 5 (by unfold maxLen; omega)
    unfold maxLen at h
    omega
  · refine .inr ⟨w.heap.size, 0, rfl, by show _ < (w.heap.push _).size; rw [Array.size_push]; omega, fun i hi => ?_⟩
    have hi' : i < B.data.size := by simpa using hi
    refine (cell_of_row (w.drew.alloc _) w.heap.size (0 + i) _ _ _ (heap_alloc_new w.drew _)).trans ?_
    rw [Nat.zero_add, bytesRow_at B _ i hi']
    rfl
end Go.Proofs.YtijboiepockmjaaDoor
