/- SpTwo, TcP: texts of this seat, one behind the other. -/
import Derived.Test.YtinbegnojfpeiaaDoorG8
import Derived.Test.YtinbegnojfpeiaaDoorTcH
import Derived.Test.YtinbegnojfpeiaaDoorTcR4
/- Two footprints side by side. Nothing of the program is named here. -/
namespace Go.Proofs.YtinbegnojfpeiaaDoor
set_option linter.unusedVariables false
set_option maxRecDepth 100000
set_option linter.unusedSimpArgs false
open Go.RowKit

theorem Sp.left {u u' : World} {G G' : List Nat} (H : List Nat) (h : Sp u u' G G') : Sp u u' (G ++ H) (G' ++ H) :=
  ⟨h.k.more fun x hx => List.mem_append_left _ hx, fun y hy => by
    rcases List.mem_append.1 hy with e | e
    · rcases h.g y e with e1 | e1
      · exact .inl (List.mem_append_left _ e1)
      · exact .inr e1
    · exact .inl (List.mem_append_right _ e)⟩
theorem Sp.right {u u' : World} {H H' : List Nat} (G : List Nat) (h : Sp u u' H H') : Sp u u' (G ++ H) (G ++ H') :=
  ⟨h.k.more fun x hx => List.mem_append_right _ hx, fun y hy => by
    rcases List.mem_append.1 hy with e | e
    · exact .inl (List.mem_append_left _ e)
    · rcases h.g y e with e1 | e1
      · exact .inl (List.mem_append_right _ e1)
      · exact .inr e1⟩
end Go.Proofs.YtinbegnojfpeiaaDoor

/- Both books of tickets side by side: the program's and the document's own. -/
namespace Go.Proofs.YtinbegnojfpeiaaDoor
set_option linter.unusedVariables false
set_option maxRecDepth 100000
set_option linter.unusedSimpArgs false
open Go.RowKit

structure Wd (W u : World) (key : ByteArray) (H : List Nat) (tb : Nat) (b : Bt) (H2 : List Nat) (db : Nat) (d : Bt) : Prop where
  z : Tz W u H tb key b
  d : Dt W u H2 db key d
  ne : ∀ y ∈ H, y ∉ H2
section
variable {W u u' : World} {key : ByteArray} {H H' H2 H2' : List Nat} {tb db : Nat} {b d b' d' : Bt} {e : TypeId}
theorem Wd.left (h : Wd W u key H tb b H2 db d) (s : Sp u u' H H') (k : Tz W u' H' tb key b') : Wd W u' key H' tb b' H2 db d :=
  ⟨k, h.d.ke s.k (fun y hy hG => h.ne y hG hy) k.l, fun y hy hH => by
    rcases s.g y hy with e | e
    · exact h.ne y e hH
    · have := h.d.hi y hH; omega⟩
theorem Wd.right (h : Wd W u key H tb b H2 db d) (s : Sp u u' H2 H2') (k : Dt W u' H2' db key d') : Wd W u' key H tb b H2' db d' :=
  ⟨h.z.ke s.k (fun y hy hH => h.ne y hy hH) k.l, k, fun y hy hH => by
    rcases s.g y hH with e | e
    · exact h.ne y hy e
    · have := h.z.hi y hy; omega⟩
theorem Wd.on (h : Wd W u key H tb b H2 db d) (hb : Below u.heap.size u u') : Wd W u' key H tb b H2 db d := ⟨h.z.on hb, h.d.on hb, h.ne⟩
theorem Wd.hi (h : Wd W u key H tb b H2 db d) : ∀ y ∈ H ++ H2, y < u.heap.size := fun y hy => by
  rcases List.mem_append.1 hy with e | e
  · exact h.z.hi y e
  · exact h.d.hi y e
theorem Wd.tu (h : Wd W u key H tb b H2 db d) (t : Tu e W (H ++ H2) u u') : Wd W u' key H tb b H2 db d := by
  refine ⟨t.tz h.z (fun y hy => List.mem_append_left _ hy), ?_, h.ne⟩
  obtain ⟨K, k1, k2⟩ := t
  exact h.d.ke k1 (fun y hy hx => (k2 y hx).1 (List.mem_append_right _ hy)) (h.d.l.trans (k1.below h.d.l.size (fun x hx => (k2 x hx).2.1)))
/-- A pass laid into a block of the law's own. -/
theorem tu_set4 {G : List Nat} {g : Nat} {cs : Array Value} (h : Bz u G g 31 cs) (hW : W.heap.size ≤ g) (p : Ps) : Tu 31 W G u (set4 u g p) :=
  ⟨[g], ke_set4 u g p, fun y hy => by
    rw [List.mem_singleton.1 hy]
    exact ⟨h.n, hW, cs, h.b⟩⟩
theorem r_issue (h : Dt W u H db key b) (hg : Gk b) (p : Ps) (d : ByteArray) (s : ByteArray) (er : Int) (b' : Bt) (hE : issT b p (tixT key d) = (s, er, b')) (hk : key.size ≤ 3000) (hd : d.size ≤ 3000) (hs2 : b.se ≤ 1000000) :
    Calls Tryd.prog 19 #[.pointer (some ⟨db, 0, none⟩), .agg #[.int .i64 p.vis, .string p.nm, .string p.ten, .int .i64 p.ep], .string d] u fun e u' => ∃ H', e = .returned (.tuple #[.string s, .int .i64 er]) ∧ Dt W u' H' db key b' ∧ Sp u u' H H' :=
  t_issue h p d (s, er, b') hE hg.few hk hd hg.s0 hs2
theorem r_redeem (h : Dt W u H db key b) (hg : Gk b) (s ten : ByteArray) (q : Ps) (er : Int) (b' : Bt) (hE : redT b s ten = (q, er, b')) :
    Calls Tryd.prog 15 #[.pointer (some ⟨db, 0, none⟩), .string s, .string ten] u fun e u' => ∃ H', e = .returned (.tuple #[.agg #[.int .i64 q.vis, .string q.nm, .string q.ten, .int .i64 q.ep], .int .i64 er]) ∧ Dt W u' H' db key b' ∧ Sp u u' H H' :=
  (t_redeem h s ten (q, er, b') hE hg.few).mono fun e u' hh => by
    obtain ⟨H', h1, h2⟩ := hh.z
    exact ⟨H', hh.e, h1, h2⟩
end
end Go.Proofs.YtinbegnojfpeiaaDoor
