/-
  9 texts in one file, each with its own heading.
-/
import Derived.Test.YthhfcedhbfandaaGreatMS18
import Derived.Deep.RegionHeld3
import Derived.Deep.LoopGhost
/-
  slices.Insert of one name, wherever; the landed forest in memory, and what stays where one family of it changes.
-/
namespace Go.Proofs.YthhfcedhbfandaaGreat
open Go.RowKit

theorem take_splice2 {X : List Value} {xs : List Int} {n i : Nat} {c : Int} (ht : X.take i = (xs.take i).map (Value.int .i64)) (hx : xs.length = n) (hi : i ≤ n) :
    (splice (splice X i [.int .i64 c]) (i + 1) ((xs.drop i).map (Value.int .i64))).take (n + 1) = (xs.take i ++ c :: xs.drop i).map (Value.int .i64) := by
  have hd : ((xs.drop i).map (Value.int .i64)).length = n - i := by rw [List.length_map, List.length_drop]; omega
  have h1 : (splice X i [.int .i64 c]).take (i + 1) = (xs.take i).map (Value.int .i64) ++ [.int .i64 c] := by
    unfold splice
    rw [ht, List.take_append_of_le_length (by simp; omega), List.take_of_length_le (by simp; omega)]
  rw [show splice (splice X i [.int .i64 c]) (i + 1) ((xs.drop i).map (Value.int .i64)) = (splice X i [.int .i64 c]).take (i + 1) ++ (xs.drop i).map (Value.int .i64) ++ (splice X i [.int .i64 c]).drop (i + 1 + ((xs.drop i).map (Value.int .i64)).length) from rfl, h1]
  rw [List.take_append_of_le_length (by rw [List.length_append, List.length_append, List.length_map, List.length_take, hd]; simp; omega), List.take_of_length_le (by rw [List.length_append, List.length_append, List.length_map, List.length_take, hd]; simp; omega)]
  simp
theorem below_drew9 (w : World) : Below w.heap.size w w.drew := ⟨rfl, rfl, rfl, Nat.le_refl _, fun _ _ => rfl⟩
theorem ins9_any {w : World} {base n i vb : Nat} {v : Value} {xs : List Int} {c : Int} (h : OwnD w base v n xs) (hbs : base ≤ w.heap.size) (hv : Blk w vb 81 #[.int .i64 c]) (hvb : v.ownBlock ≠ some vb) (hi : i ≤ n) (hn : n ≤ 100000) :
    Calls Tryz.prog 184 #[v, .int .i64 i, .slice (some ⟨vb, 0, none⟩) 1 1] w fun e w' =>
      ∃ b cap, e = .returned (.slice (some ⟨b, 0, none⟩) (n + 1) cap) ∧ OwnD w' base (.slice (some ⟨b, 0, none⟩) (n + 1) cap) (n + 1) (xs.take i ++ c :: xs.drop i) ∧ w.grownBy w' v.ownBlock ∧ (v.ownBlock = some b ∨ w.heap.size ≤ b) := by
  have hlen := h.len
  by_cases hin : i = n
  · subst hin
    refine (ins9_end h hbs hv hn).mono ?_
    rintro e w' ⟨v', rfl, k1, k2, k3⟩
    rw [List.take_of_length_le (by omega), List.drop_of_length_le (by omega)]
    rcases k1.2 with ⟨_, q⟩ | ⟨g, cap, cur, rfl, _⟩
    · omega
    · refine ⟨g, cap, rfl, k1, k2, ?_⟩
      rcases k3 with q | q
      · exact Or.inl q.symm
      · have e2 : g = w.heap.size := by injection q
        exact Or.inr (by omega)
  · rcases h.2 with ⟨_, q⟩ | ⟨g, cap, cur, rfl, _⟩
    · omega
    · obtain ⟨X, hbk, hXl, hXt, hnc, hm, hbg⟩ := h.cells
      have hne : vb ≠ g := fun e => hvb (by rw [e]; rfl)
      have hdl : ((xs.drop i).map (Value.int .i64)).length = n - i := by rw [List.length_map, List.length_drop, hlen]
      by_cases hroom : n + 1 ≤ cap
      · refine (ins9_shift h hv hne (by omega) hroom).mono ?_
        rintro e w' ⟨rfl, rfl⟩
        have b1 : Blk (w.drew.setCells g (i + 1) ((xs.drop i).map (Value.int .i64))) g 81 (splice X (i + 1) ((xs.drop i).map (Value.int .i64))).toArray := blk_setCells _ (show Blk w.drew g _ _ from hbk) (by rw [hdl]; omega)
        have l1 := splice_len (X := X) (o := i + 1) (vs := (xs.drop i).map (Value.int .i64)) (by rw [hdl]; omega)
        have b2 := blk_setCells [Value.int .i64 c] (o := i) b1 (by rw [l1]; simp; omega)
        refine ⟨g, cap, rfl, OwnD.of_cells b2 ?_ (take_splice hXt (by omega) hlen hi) (by omega) hm hbg, ?_, Or.inl rfl⟩
        · rw [splice_len (by rw [l1]; simp; omega), l1, hXl]
        · exact grown_trans (grown_trans (below_grown (below_drew9 w) _) (grown_sets _ _ _ _)) (grown_sets _ _ _ _)
      · refine (ins9_grow h hv (by omega) (by omega) hn).mono ?_
        rintro e w' ⟨G, ROW, rfl, hG1, hG2, hR, hRt, rfl⟩
        have b0 : Blk (w.alloc (.cells ROW.toArray 81)).drew w.heap.size 81 ROW.toArray := Blk.new w _ _
        have b1 := blk_setCells [Value.int .i64 c] (o := i) b0 (by simp; omega)
        have l1 := splice_len (X := ROW) (o := i) (vs := [Value.int .i64 c]) (by simp; omega)
        have b2 := blk_setCells ((xs.drop i).map (Value.int .i64)) (o := i + 1) (show Blk ((w.alloc (.cells ROW.toArray 81)).drew.setCells w.heap.size i [.int .i64 c]).drew _ _ _ from b1) (by rw [l1, hdl]; omega)
        refine ⟨w.heap.size, G, rfl, OwnD.of_cells b2 ?_ (take_splice2 hRt hlen hi) hG1 hG2 hbs, ?_, Or.inr (Nat.le_refl _)⟩
        · rw [splice_len (by rw [l1, hdl]; omega), l1, hR]
        · have q0 : Below w.heap.size w (w.alloc (.cells ROW.toArray 81)).drew := bthen (alloc_below w _) (below_drew9 _)
          have q1 := below_setCells [Value.int .i64 c] (g := w.heap.size) (o := i) q0 (Nat.le_refl _)
          have q2 : Below w.heap.size w ((w.alloc (.cells ROW.toArray 81)).drew.setCells w.heap.size i [.int .i64 c]).drew := bthen q1 (below_drew9 _)
          exact below_grown (below_setCells _ q2 (Nat.le_refl _)) _

def chO (L : FT) (bl cp : Int → Nat) (x : Int) : Option (Nat × Nat × Nat) := if chF L x = [] then none else some (bl x, (chF L x).length, cp x)
structure LF (w : World) (g : Nat) (L : FT) (gp gc : Nat) (bl cp : Int → Nat) : Prop where
  blk : Blk w g 142 #[.map (some gp), .map (some gc)]
  par : MF pK w gp (parO L)
  chd : MF cK w gc (chO L bl cp)
  row : ∀ x, chF L x ≠ [] → OwnD w 0 (.slice (some ⟨bl x, 0, none⟩) (chF L x).length (cp x)) (chF L x).length (chF L x)
  inj : ∀ x y, chF L x ≠ [] → chF L y ≠ [] → bl x = bl y → x = y
  ne1 : g ≠ gp
  ne2 : g ≠ gc
  ne3 : gp ≠ gc
  off : ∀ x, chF L x ≠ [] → bl x ≠ g ∧ bl x ≠ gp ∧ bl x ≠ gc
  rng : ∀ p ∈ L, Rg p.1 ∧ Rg p.2
def lfoot9 (L : FT) (g gp gc : Nat) (bl : Int → Nat) (b : Nat) : Prop := b = g ∨ b = gp ∨ b = gc ∨ ∃ x, chF L x ≠ [] ∧ b = bl x
def LFB (w : World) (g : Nat) (F : Nat → Prop) (L : FT) : Prop := ∃ gp gc bl cp, LF w g L gp gc bl cp ∧ ∀ b, F b ↔ lfoot9 L g gp gc bl b
section
variable {w w' : World} {g gp gc : Nat} {L L' : FT} {bl cp bl' cp' : Int → Nat} {F : Nat → Prop}
theorem LF.inb (h : LF w g L gp gc bl cp) : ∀ b, lfoot9 L g gp gc bl b → b < w.heap.size := by
  rintro b (rfl | rfl | rfl | ⟨x, hx, rfl⟩)
  · exact h.blk.lt
  · exact h.par.lt
  · exact h.chd.lt
  · exact ((h.row x hx).lt _ rfl).2
theorem LF.same (h : LF w g L gp gc bl cp) (he : ∀ b, lfoot9 L g gp gc bl b → w'.heap[b]? = w.heap[b]?) : LF w' g L gp gc bl cp :=
  ⟨h.blk.same (he g (Or.inl rfl)), h.par.same (he gp (Or.inr (Or.inl rfl))), h.chd.same (he gc (Or.inr (Or.inr (Or.inl rfl)))), fun x hx => (h.row x hx).same (fun b e => he b (Or.inr (Or.inr (Or.inr ⟨x, hx, by injection e with e; exact e.symm⟩)))), h.inj, h.ne1, h.ne2, h.ne3, h.off, h.rng⟩
theorem LF.keep (h : LF w g L gp gc bl cp) (hb : Below w.heap.size w w') : LF w' g L gp gc bl cp := h.same (fun b hf => hb.block b (h.inb b hf))
theorem LF.c0 (h : LF w g L gp gc bl cp) : w.cell? ⟨g, 0, none⟩ = some (.map (some gp)) := h.blk.cell 0
theorem LF.c1 (h : LF w g L gp gc bl cp) : w.cell? ⟨g, 1, none⟩ = some (.map (some gc)) := h.blk.cell 1
theorem LFB.keep_ (h : LFB w g F L) (he : ∀ b, F b → w'.heap[b]? = w.heap[b]?) : LFB w' g F L := by
  obtain ⟨gp, gc, bl, cp, h1, h2⟩ := h
  exact ⟨gp, gc, bl, cp, h1.same (fun b hb => he b ((h2 b).2 hb)), h2⟩
theorem LFB.inb (h : LFB w g F L) : ∀ b, F b → b < w.heap.size := by
  obtain ⟨gp, gc, bl, cp, h1, h2⟩ := h
  exact fun b hb => h1.inb b ((h2 b).1 hb)
theorem LFB.keep (h : LFB w g F L) (hb : Below w.heap.size w w') : LFB w' g F L := h.keep_ (fun b hf => hb.block b (h.inb b hf))
theorem LF.fam (h : LF w g L gp gc bl cp) (x : Int) : OwnD w 0 (cV (chO L bl cp x)) (chF L x).length (chF L x) := by
  unfold chO
  by_cases c : chF L x = []
  · rw [if_pos c, c]
    exact OwnD.nil _ _
  · rw [if_neg c]
    exact h.row x c
theorem LF.rowOf (h : LF w g L gp gc bl cp) (x : Int) : ∃ a cap, cV (chO L bl cp x) = .slice a (chF L x).length cap ∧ Row w a (chF L x).length (chF L x) := (h.fam x).row
theorem LF.step (h : LF w g L gp gc bl cp) (hF : ∀ b, F b ↔ lfoot9 L g gp gc bl b) {p : Int}
    (hfr : Fr w w' (fun b => b = gp ∨ b = gc ∨ (chF L p ≠ [] ∧ b = bl p)))
    (hpar : MF pK w' gp (parO L')) (hchd : MF cK w' gc (chO L' bl' cp'))
    (hrow : chF L' p ≠ [] → OwnD w' 0 (.slice (some ⟨bl' p, 0, none⟩) (chF L' p).length (cp' p)) (chF L' p).length (chF L' p))
    (hbl : chF L' p ≠ [] → (chF L p ≠ [] ∧ bl' p = bl p) ∨ w.heap.size ≤ bl' p)
    (hoth : ∀ x, x ≠ p → chF L' x = chF L x ∧ bl' x = bl x ∧ cp' x = cp x)
    (hrng : ∀ q ∈ L', Rg q.1 ∧ Rg q.2) : LF w' g L' gp gc bl' cp' ∧ ChF LFB w w' g F L' := by
  have hst : ∀ b, b < w.heap.size → b ≠ gp → b ≠ gc → (chF L p ≠ [] → b ≠ bl p) → w'.heap[b]? = w.heap[b]? := fun b hb h1 h2 h3 => hfr.2.2.2.2 b hb (fun c => by
    rcases c with c | c | ⟨c, d⟩
    · exact h1 c
    · exact h2 c
    · exact h3 c d)
  have hg := h.blk.lt
  have hgp := h.par.lt
  have hgc := h.chd.lt
  have hin : ∀ x, chF L x ≠ [] → bl x < w.heap.size := fun x hx => ((h.row x hx).lt _ rfl).2
  have hLF : LF w' g L' gp gc bl' cp' := by
    refine ⟨h.blk.same (hst g hg h.ne1 h.ne2 (fun c e => (h.off p c).1 e.symm)), hpar, hchd, fun x hx => ?_, fun x y hx hy e => ?_, h.ne1, h.ne2, h.ne3, fun x hx => ?_, hrng⟩
    · by_cases c : x = p
      · rw [c] at hx ⊢; exact hrow hx
      · obtain ⟨e1, e2, e3⟩ := hoth x c
        rw [e1] at hx ⊢
        rw [e2, e3]
        refine (h.row x hx).same (fun b e => ?_)
        injection e with e
        have e : bl x = b := e
        subst e
        exact hst _ (hin x hx) (h.off x hx).2.1 (h.off x hx).2.2 (fun d e => c (h.inj x p hx d e))
    · by_cases c : x = p
      · by_cases d : y = p
        · rw [c, d]
        · exfalso
          obtain ⟨e1, e2, _⟩ := hoth y d
          rw [e1] at hy
          rw [e2, c] at e
          rw [c] at hx
          rcases hbl hx with ⟨q, q2⟩ | q
          · rw [q2] at e
            exact d (h.inj p y q hy e).symm
          · have := hin y hy; omega
      · obtain ⟨e1, e2, _⟩ := hoth x c
        rw [e1] at hx
        by_cases d : y = p
        · exfalso
          rw [e2, d] at e
          rw [d] at hy
          rcases hbl hy with ⟨q, q2⟩ | q
          · rw [q2] at e
            exact c (h.inj x p hx q e)
          · have := hin x hx; omega
        · obtain ⟨f1, f2, _⟩ := hoth y d
          rw [f1] at hy
          rw [e2, f2] at e
          exact h.inj x y hx hy e
    · by_cases c : x = p
      · rw [c] at hx ⊢
        rcases hbl hx with ⟨q, q2⟩ | q
        · rw [q2]; exact h.off p q
        · exact ⟨by omega, by omega, by omega⟩
      · obtain ⟨e1, e2, _⟩ := hoth x c
        rw [e1] at hx
        rw [e2]
        exact h.off x hx
  refine ⟨hLF, lfoot9 L' g gp gc bl', ⟨gp, gc, bl', cp', hLF, fun _ => Iff.rfl⟩, ?_, ?_⟩
  · exact Fr.of hfr (fun b c => (hF b).2 (by
      rcases c with c | c | ⟨c, d⟩
      · exact Or.inr (Or.inl c)
      · exact Or.inr (Or.inr (Or.inl c))
      · exact Or.inr (Or.inr (Or.inr ⟨p, c, d⟩))))
  · rintro b (e | e | e | ⟨x, hx, e⟩)
    · exact Or.inl ((hF b).2 (Or.inl e))
    · exact Or.inl ((hF b).2 (Or.inr (Or.inl e)))
    · exact Or.inl ((hF b).2 (Or.inr (Or.inr (Or.inl e))))
    · by_cases c : x = p
      · rw [c] at hx e
        rcases hbl hx with ⟨q, q2⟩ | q
        · exact Or.inl ((hF b).2 (Or.inr (Or.inr (Or.inr ⟨p, q, by rw [e, q2]⟩))))
        · exact Or.inr (by omega)
      · obtain ⟨e1, e2, _⟩ := hoth x c
        rw [e1] at hx
        exact Or.inl ((hF b).2 (Or.inr (Or.inr (Or.inr ⟨x, hx, by rw [e, e2]⟩))))
theorem fr_none (w : World) (M : Nat → Prop) : Fr w w M := ⟨rfl, rfl, rfl, Nat.le_refl _, fun _ _ _ => rfl⟩
theorem fr_grown {w1 w2 : World} {M : Nat → Prop} {r : Option Nat} (h : Fr w w1 M) (hg : w1.grownBy w2 r) (hr : ∀ b, r = some b → M b ∨ w.heap.size ≤ b) : Fr w w2 M :=
  ⟨hg.os.trans h.1, hg.tape.trans h.2.1, hg.output.trans h.2.2.1, Nat.le_trans h.2.2.2.1 hg.size, fun b hb hn => (hg.block b (Nat.lt_of_lt_of_le hb h.2.2.2.1) (fun e => (hr b e.symm).elim hn (fun q => by omega))).trans (h.2.2.2.2 b hb hn)⟩
theorem fr_below {w1 w2 : World} {M : Nat → Prop} (h : Fr w w1 M) (hb : Below w1.heap.size w1 w2) : Fr w w2 M := Fr.behind h hb
end

section
variable {FB : World → Nat → (Nat → Prop) → FT → Prop}
variable {w0 w w' : World} {gp gr : Nat} {Fp Fq : Nat → Prop} {Lp Lq Lp' Lq' : FT}
end
def c9 (x : A9) : List Value := [.int .u8 x.k, .slice x.a x.n x.cap]
section
variable {FB : World → Nat → (Nat → Prop) → FT → Prop}
theorem row_lit (w : World) (t : TypeId) (xs : List Int) (h : xs.length ≤ 1000) : Row (w.alloc (.cells (xs.map (Value.int .i64)).toArray t)) (some ⟨w.heap.size, 0, none⟩) xs.length xs := by
  refine ⟨rfl, by omega, Or.inr ⟨w.heap.size, 0, rfl, fun i hi => ?_⟩⟩
  have := (Blk.new w t (xs.map (Value.int .i64)).toArray).cell (0 + i)
  rw [this]
  simp [hi, List.getD]
end
section
variable {w : World} {g gp gc : Nat} {L : FT} {bl cp : Int → Nat}
theorem par_rng {L : FT} (h : ∀ p ∈ L, Rg p.1 ∧ Rg p.2) {z y : Int} (hp : parO L z = some y) : Rg z ∧ Rg y := h _ (par_mem hp)
theorem ch_rng {L : FT} (hn : (L.map Prod.fst).Nodup) (h : ∀ p ∈ L, Rg p.1 ∧ Rg p.2) {x z : Int} (hz : z ∈ chF L x) : Rg z := (par_rng h ((mem_chF hn).1 hz)).1
theorem abv_has {L : FT} (h : WF L) {c p : Int} (hc : c ∈ abv L p) : chF L c ≠ [] := fun e => by
  have h1 : p ∈ beh L c := (mem_beh h).2 (Or.inr hc)
  rw [beh_eq h, e] at h1
  rw [List.flatMap_nil, List.mem_singleton] at h1
  rw [h1] at hc
  exact no_ring h c hc
set_option maxHeartbeats 2000000 in
set_option maxRecDepth 100000 in
theorem lparent_any (h : LF w g L gp gc bl cp) {x : Int} (hx : Rg x) :
    Calls Tryz.prog 251 #[.pointer (some ⟨g, 0, none⟩), .int .i64 x] w fun e w' => e = .returned (.tuple #[.int .i64 (parV (parO L x)), .bool (parO L x).isSome]) ∧ w = w' := by
  have c0 := h.c0
  have hg := h.blk.lt
  have hl : (Instr.lookup 139 (.map (some gp)) (.int .i64 x) true).run Tryz.prog w = .ok (.tuple #[.int .i64 (parV (parO L x)), .bool (parO L x).isSome]) w := h.par.look hx
  obtain ⟨pv, hpv⟩ : ∃ pv, pv = parV (parO L x) := ⟨_, rfl⟩
  obtain ⟨pb, hpb⟩ : ∃ pb, pb = (parO L x).isSome := ⟨_, rfl⟩
  rw [← hpv, ← hpb] at hl ⊢
  clear h hpv hpb
  go_enter Tryz.func251, Tryz.ntmps251
  go_wp2
  go_ret2
  exact ⟨rfl, rfl⟩
set_option maxHeartbeats 2000000 in
set_option maxRecDepth 100000 in
theorem lchildren_any (h : LF w g L gp gc bl cp) (hL : L.length ≤ 1000) {x : Int} (hx : Rg x) :
    Calls Tryz.prog 121 #[.pointer (some ⟨g, 0, none⟩), .int .i64 x] w fun e w' => ∃ v, e = .returned v ∧ OwnD w' w.heap.size v (chF L x).length (chF L x) ∧ Below w.heap.size w w' := by
  have c1 := h.c1
  have hg := h.blk.lt
  obtain ⟨a, cap, hv, hr⟩ := h.rowOf x
  have hl : (Instr.lookup 140 (.map (some gc)) (.int .i64 x) false).run Tryz.prog w = .ok (cV (chO L bl cp x)) w := h.chd.get hx
  rw [hv] at hl
  have hn := chF_len L x
  have HC := Lib.hid (clone9_any (cap := cap) hr (by omega))
  obtain ⟨n, hnn⟩ : ∃ n, n = (chF L x).length := ⟨_, rfl⟩
  rw [← hnn] at hl HC ⊢
  clear h hv hr hn hnn
  go_enter Tryz.func121, Tryz.ntmps121
  go_wp2_with fail
  refine HC.out.mono ?_
  rintro e w1 ⟨v, rfl, k1, k2⟩
  have K := Lib.hid (And.intro k1 k2)
  clear k1 k2
  go_wp2
  go_ret
  exact ⟨v, rfl, K.out⟩
theorem find9_below {w : World} {a : Option Addr} {n cap : Nat} {xs : List Int} (h : Row w a n xs) (hn : n ≤ 100000) (hs : xs.Pairwise (· ≤ ·)) (x : Int) :
    Calls Tryz.prog 182 #[.slice a n cap, .int .i64 x] w fun e w' => e = .returned (.tuple #[.int .i64 (cntI xs x : Nat), .bool (decide (x ∈ xs))]) ∧ Below w.heap.size w w' := by
  refine (find9_any h hn hs x).mono ?_
  rintro e w' ⟨rfl, q, rfl⟩
  exact ⟨rfl, Go.below_drewN (Below.refl _ _) q⟩
def hasA (L : FT) (ns : List Int) (x : Int) : Bool := (abv L x).any (fun a => decide (a ∈ ns))
theorem hasA_none {L : FT} (h : WF L) {ns : List Int} {x : Int} (hp : parO L x = none) : hasA L ns x = false := by
  unfold hasA
  rw [abv_none h hp]
  rfl
theorem hasA_some {L : FT} (h : WF L) {ns : List Int} {x y : Int} (hp : parO L x = some y) : hasA L ns x = (decide (y ∈ ns) || hasA L ns y) := by
  unfold hasA
  rw [abv_some h hp]
  rfl
set_option maxHeartbeats 2000000 in
set_option maxRecDepth 100000 in
theorem lhas_any (h : LF w g L gp gc bl cp) (hW : WF L) {x : Int} (hx : Rg x) {a : Option Addr} {n cap : Nat} {ns : List Int} (hr : Row w a n ns) (hn : n ≤ 100000) (hs : ns.Pairwise (· ≤ ·)) :
    Calls Tryz.prog 181 #[.pointer (some ⟨g, 0, none⟩), .int .i64 x, .slice a n cap] w fun e w' => e = .returned (.bool (hasA L ns x)) ∧ Below w.heap.size w w' := by
  have HLk : Hid (∀ u z, Below w.heap.size w u → Rg z → (Instr.lookup 139 (.map (some gp)) (.int .i64 z) true).run Tryz.prog u = .ok (.tuple #[.int .i64 (parV (parO L z)), .bool (parO L z).isSome]) u ∧ u.cell? ⟨g, 0, none⟩ = some (.map (some gp)) ∧ g < u.heap.size) := Lib.hid (fun u z q hz => ⟨(h.keep q).par.look hz, (h.keep q).c0, (h.keep q).blk.lt⟩)
  have HFi : Hid (∀ u y, Below w.heap.size w u → Calls Tryz.prog 182 #[.slice a n cap, .int .i64 y] u fun e w' => e = .returned (.tuple #[.int .i64 (cntI ns y : Nat), .bool (decide (y ∈ ns))]) ∧ Below u.heap.size u w') := Lib.hid (fun u y q => find9_below (row_keep hr q) hn hs y)
  have HRg : Hid (∀ z y, parO L z = some y → Rg y) := Lib.hid (fun z y e => (par_rng h.rng e).2)
  have HW := Lib.hid hW
  obtain ⟨hl, c0, hg⟩ := HLk.out w x (Below.refl _ _) hx
  clear h hW hr hs
  go_enter Tryz.func181, Tryz.ntmps181
  go_wp2
  go_loopw [7, 8, 9, 10] (fun v7 v8 _ _ wr => ∃ z : Int, v7 = .int .i64 (parV (parO L z)) ∧ v8 = .bool (parO L z).isSome ∧ hasA L ns x = hasA L ns z ∧ Below w.heap.size w wr) (fun v7 v8 _ _ _ => match v8 with | .bool true => abM L v7 | _ => 0)
  case atStart => exact ⟨x, rfl, rfl, rfl, Below.refl _ _⟩
  case round =>
    clear hl c0 hg hx
    obtain ⟨z, rfl, rfl, he, hb⟩ := hrel
    have HE := Lib.hid he
    have HB := Lib.hid hb
    clear he hb
    cases hpz : parO L z with
    | none =>
      have HR := Lib.hid (HE.out.trans (hasA_none HW.out hpz))
      clear hpz
      go_wp2
      go_ret
      exact ⟨by rw [HR.out]; rfl, HB.out⟩
    | some y =>
      have HR := Lib.hid (HE.out.trans (hasA_some HW.out hpz))
      have HY := Lib.hid (HRg.out z y hpz)
      clear hpz
      have e1 : parV (some y) = y := rfl
      rw [e1]
      have HF := Lib.hid (HFi.out _ y HB.out)
      obtain ⟨fb, hfb⟩ : ∃ fb, fb = decide (y ∈ ns) := ⟨_, rfl⟩
      obtain ⟨fc, hfc⟩ : ∃ fc, fc = cntI ns y := ⟨_, rfl⟩
      rw [← hfb, ← hfc] at HF
      rw [← hfb] at HR
      clear hfb hfc
      go_wp2_with fail
      refine HF.out.mono ?_
      rintro e w1 ⟨rfl, b1⟩
      have HB1 := Lib.hid (bthen HB.out b1)
      clear b1 HF
      cases fb with
      | true =>
        go_wp2
        go_ret
        exact ⟨by rw [HR.out]; rfl, HB1.out⟩
      | false =>
        obtain ⟨hl, c0, hg⟩ := HLk.out w1 y HB1.out HY.out
        go_wp2
        go_roundw
        case rel => exact ⟨y, rfl, rfl, by rw [HR.out]; rfl, HB1.out⟩
        case measure =>
          show _ < abM L (.int .i64 y)
          have hlt : ∀ o, parO L y = o → (match (Value.bool o.isSome) with | .bool true => abM L (.int .i64 (parV o)) | _ => 0) < abM L (.int .i64 y) := fun o ho => by
            cases o with
            | none => show 0 < _; unfold abM; omega
            | some y2 =>
              show abM L (.int .i64 y2) < _
              unfold abM
              show (abv L y2).length + 1 < (abv L y).length + 1
              rw [abv_some HW.out ho, List.length_cons]
              omega
          exact hlt _ rfl

theorem hasA_one {L : FT} (c x : Int) : hasA L [c] x = decide (c ∈ abv L x) := by
  unfold hasA
  rw [Bool.eq_iff_iff, List.any_eq_true, decide_eq_true_eq]
  constructor
  · rintro ⟨a, ha, e⟩
    have : a = c := by simpa using e
    rw [← this]
    exact ha
  · intro hc
    exact ⟨c, hc, by simp⟩
set_option maxHeartbeats 2000000 in
set_option maxRecDepth 100000 in
theorem lisAbove_any (h : LF w g L gp gc bl cp) (hW : WF L) {c p : Int} (hc : Rg c) (hp : Rg p) :
    Calls Tryz.prog 113 #[.pointer (some ⟨g, 0, none⟩), .int .i64 c, .int .i64 p] w fun e w' => e = .returned (.bool (decide (c ∈ abv L p))) ∧ Below w.heap.size w w' := by
  have c1 := h.c1
  have hg := h.blk.lt
  obtain ⟨a, cap, hv, hr⟩ := h.rowOf c
  have hl : (Instr.lookup 140 (.map (some gc)) (.int .i64 c) false).run Tryz.prog w = .ok (cV (chO L bl cp c)) w := h.chd.get hc
  rw [hv] at hl
  have HH : Hid (Calls Tryz.prog 181 #[.pointer (some ⟨g, 0, none⟩), .int .i64 p, .slice (some ⟨w.heap.size, 0, none⟩) 1 1] (w.alloc (.cells #[.int .i64 c] 81)) fun e w' => e = .returned (.bool (decide (c ∈ abv L p))) ∧ Below w.heap.size w w') := Lib.hid (by
    have hal : Below w.heap.size w (w.alloc (.cells #[.int .i64 c] 81)) := alloc_below _ _
    have := lhas_any (cap := 1) (h.keep hal) hW hp (row_lit w 81 [c] (by simp)) (by simp) (by simp)
    rw [hasA_one] at this
    exact this.mono fun e w' q => ⟨q.1, bthen hal q.2⟩)
  have HNo : Hid ((chF L c).length = 0 → decide (c ∈ abv L p) = false) := Lib.hid (fun e => decide_eq_false (fun k => abv_has hW k (List.eq_nil_of_length_eq_zero e)))
  obtain ⟨n, hnn⟩ : ∃ n, n = (chF L c).length := ⟨_, rfl⟩
  obtain ⟨rb, hrb⟩ : ∃ rb, rb = decide (c ∈ abv L p) := ⟨_, rfl⟩
  rw [← hnn] at hl HNo
  rw [← hrb] at HH HNo ⊢
  clear h hv hr hnn hrb hW
  by_cases hn : n = 0
  · subst hn
    obtain rfl := HNo.out rfl
    go_enter Tryz.func113, Tryz.ntmps113
    go_wp2
    go_ret
    exact ⟨rfl, Below.refl _ _⟩
  · have q : (0 : Int) < (n : Int) := by omega
    go_enter Tryz.func113, Tryz.ntmps113
    go_wp2_with fail
    refine HH.out.mono ?_
    rintro e w1 ⟨rfl, b1⟩
    have HB := Lib.hid b1
    clear b1
    go_wp2
    go_ret
    exact ⟨rfl, HB.out⟩
end
section
variable {w w1 w2 w3 w4 : World} {g gp gc : Nat} {L : FT} {bl cp : Int → Nat} {F : Nat → Prop} {c p : Int}
theorem grown_at {a b : World} {k k' : Nat} (h : a.grownBy b (some k)) (hk : k' < a.heap.size) (hne : k' ≠ k) : b.heap[k']? = a.heap[k']? := h.block k' hk (fun e => hne (by injection e))
set_option maxRecDepth 100000 in
theorem LF.cutEnd (h : LF w g L gp gc bl cp) (hF : ∀ b, F b ↔ lfoot9 L g gp gc bl b) (hW : WF L) (hp : parO L c = some p) (hm1 : MF pK w1 gp (upm (parO L) c none)) (hg1 : w.grownBy w1 (some gp)) (hb2 : Below w1.heap.size w1 w2)
    (hr3 : OwnD w3 0 (.slice (some ⟨bl p, 0, none⟩) ((chF L p).length - 1) (cp p)) ((chF L p).length - 1) (cutI (chF L p) c)) (hg3 : w2.grownBy w3 (some (bl p)))
    (hm4 : MF cK w4 gc (upm (chO L bl cp) p (if cutI (chF L p) c = [] then none else some (bl p, (chF L p).length - 1, cp p)))) (hg4 : w3.grownBy w4 (some gc)) : ChF LFB w w4 g F (freeF L c) := by
  have hm : c ∈ chF L p := (mem_chF hW.1).2 hp
  have hne : chF L p ≠ [] := fun e => by rw [e] at hm; cases hm
  have hcl := cutI_len (chF_up hW.1 p) hm
  have hs := ch_free_self hW.1 hp
  have ho := h.off p hne
  have hgp1 := hm1.lt
  have hgp2 : gp < w2.heap.size := Nat.lt_of_lt_of_le hgp1 hb2.size
  have hgp3 : gp < w3.heap.size := Nat.lt_of_lt_of_le hgp2 hg3.size
  have hbl3 : bl p < w3.heap.size := (hr3.lt _ rfl).2
  refine (h.step (L' := freeF L c) (bl' := bl) (cp' := cp) (p := p) hF (fr_grown (fr_grown (fr_below (fr_grown (fr_none w _) hg1 (fun b e => Or.inl (Or.inl (by injection e with e; exact e.symm)))) hb2) hg3 (fun b e => Or.inl (Or.inr (Or.inr ⟨hne, by injection e with e; exact e.symm⟩)))) hg4 (fun b e => Or.inl (Or.inr (Or.inl (by injection e with e; exact e.symm))))) ?_ ?_ ?_ (fun _ => Or.inl ⟨hne, rfl⟩) (fun x hx => ⟨ch_free_other hW.1 hp hx, rfl, rfl⟩) (free_rng h.rng c)).2
  · refine MF.eq (m := upm (parO L) c none) (hm1.same ?_) (fun x _ => by rw [par_free]; rfl)
    exact (grown_at hg4 hgp3 h.ne3).trans ((grown_at hg3 hgp2 (fun e => ho.2.1 e.symm)).trans (hb2.block gp hgp1))
  · refine MF.eq hm4 (fun x _ => ?_)
    unfold upm
    by_cases q : x = p
    · rw [if_pos q, q]
      unfold chO
      rw [hs, hcl]
    · rw [if_neg q]
      unfold chO
      rw [ch_free_other hW.1 hp q]
  · intro _
    rw [hs, hcl]
    exact hr3.same (fun b e => grown_at hg4 (by injection e with e; rw [← e]; exact hbl3) (by injection e with e; rw [← e]; exact ho.2.2))
set_option maxHeartbeats 4000000 in
set_option maxRecDepth 100000 in
theorem lloosen_any (h0 : LFB w g F L) (hW : WF L) (hL : L.length ≤ 1000) (hc : Rg c) :
    Calls Tryz.prog 114 #[.pointer (some ⟨g, 0, none⟩), .int .i64 c] w fun e w' => e = .returned (.bool (parO L c).isSome) ∧ ChF LFB w w' g F (freeF L c) := by
  have h00 := h0
  obtain ⟨gp, gc, bl, cp, h, hF⟩ := h0
  have c0 := h.c0
  have hg := h.blk.lt
  have hl : (Instr.lookup 139 (.map (some gp)) (.int .i64 c) true).run Tryz.prog w = .ok (.tuple #[.int .i64 (parV (parO L c)), .bool (parO L c).isSome]) w := h.par.look hc
  cases hp : parO L c with
  | none =>
    rw [hp] at hl
    have HE : Hid (ChF LFB w w g F (freeF L c)) := Lib.hid (by
      rw [free_none hp]
      exact ⟨F, h00, fr_none w F, fun _ q => Or.inl q⟩)
    clear h00 h hF hp hW
    go_enter Tryz.func114, Tryz.ntmps114
    go_wp2
    go_ret
    exact ⟨rfl, HE.out⟩
  | some p =>
    rw [hp] at hl
    replace hl : (Instr.lookup 139 (.map (some gp)) (.int .i64 c) true).run Tryz.prog w = .ok (.tuple #[.int .i64 p, .bool true]) w := hl
    have hpr := (par_rng h.rng hp).2
    have hm : c ∈ chF L p := (mem_chF hW.1).2 hp
    have hne : chF L p ≠ [] := fun e => by rw [e] at hm; cases hm
    have ho := h.off p hne
    obtain ⟨w1, hd1, hm1, hg1⟩ := h.par.del hc
    replace hd1 : ∀ ty, (Builtin.delete_ #[139, 81] ty #[.map (some gp), .int .i64 c]).run Tryz.prog w = .ok (.tuple #[]) w1 := hd1
    have k1 : Blk w1 g 142 #[.map (some gp), .map (some gc)] := h.blk.same (grown_at hg1 hg h.ne1)
    have d1 : MF cK w1 gc (chO L bl cp) := h.chd.same (grown_at hg1 h.chd.lt (fun e => h.ne3 e.symm))
    have r1 : OwnD w1 0 (.slice (some ⟨bl p, 0, none⟩) (chF L p).length (cp p)) (chF L p).length (chF L p) := (h.row p hne).same (fun b e => grown_at hg1 (by injection e with e; rw [← e]; exact ((h.row p hne).lt _ rfl).2) (by injection e with e; rw [← e]; exact ho.2.1))
    have hl1 : (Instr.lookup 140 (.map (some gc)) (.int .i64 p) false).run Tryz.prog w1 = .ok (.slice (some ⟨bl p, 0, none⟩) (chF L p).length (cp p)) w1 := by
      have := d1.get hpr
      unfold chO at this
      rw [if_neg hne] at this
      exact this
    have c11 : w1.cell? ⟨g, 1, none⟩ = some (.map (some gc)) := k1.cell 1
    have hgl1 := k1.lt
    have hcl := chF_len L p
    have hlt := cntI_lt (chF_up hW.1 p) hm
    have HBs : Hid (Calls Tryz.prog 182 #[.slice (some ⟨bl p, 0, none⟩) (chF L p).length (cp p), .int .i64 c] w1 fun e w2 => e = .returned (.tuple #[.int .i64 (cntI (chF L p) c : Nat), .bool true]) ∧ Below w1.heap.size w1 w2) := Lib.hid (by
      obtain ⟨a, cap, e, hr⟩ := r1.row
      injection e with e1 _ e3
      subst e1 e3
      have := find9_below (cap := cp p) hr (by omega) (up_le (chF_up hW.1 p)) c
      rwa [decide_eq_true hm] at this)
    have HDl : Hid (∀ w2, Below w1.heap.size w1 w2 → Calls Tryz.prog 183 #[.slice (some ⟨bl p, 0, none⟩) (chF L p).length (cp p), .int .i64 (cntI (chF L p) c : Nat), .int .i64 ((cntI (chF L p) c : Nat) + 1)] w2 fun e w3 => e = .returned (.slice (some ⟨bl p, 0, none⟩) ((chF L p).length - 1) (cp p)) ∧ w3.cell? ⟨g, 1, none⟩ = some (.map (some gc)) ∧ g < w3.heap.size ∧
        ∃ w4, (if (chF L p).length - 1 = 0 then (∀ ty, (Builtin.delete_ #[140, 81] ty #[.map (some gc), .int .i64 p]).run Tryz.prog w3 = .ok (.tuple #[]) w4) else (Instr.mapUpdate 140 (.map (some gc)) (.int .i64 p) (.slice (some ⟨bl p, 0, none⟩) ((chF L p).length - 1) (cp p))).run Tryz.prog w3 = .ok () w4) ∧ ChF LFB w w4 g F (freeF L c)) := Lib.hid (fun w2 hb2 => by
      refine (del9_any (r1.keep hb2) hlt).mono ?_
      rintro e w3 ⟨rfl, r3, hg3⟩
      have k3 : Blk w3 g 142 #[.map (some gp), .map (some gc)] := (k1.keep hb2).same (grown_at hg3 (k1.keep hb2).lt (fun e => ho.1 e.symm))
      have d3 : MF cK w3 gc (chO L bl cp) := (d1.keep hb2).same (grown_at hg3 (d1.keep hb2).lt (fun e => ho.2.2 e.symm))
      refine ⟨rfl, k3.cell 1, k3.lt, ?_⟩
      have hcut := cutI_len (chF_up hW.1 p) hm
      by_cases z : (chF L p).length - 1 = 0
      · obtain ⟨w4, hd4, hm4, hg4⟩ := d3.del hpr
        refine ⟨w4, by rw [if_pos z]; exact hd4, h.cutEnd hF hW hp hm1 hg1 hb2 r3 hg3 ?_ hg4⟩
        rw [if_pos (List.eq_nil_of_length_eq_zero (by omega))]
        exact hm4
      · obtain ⟨w4, hd4, hm4, hg4⟩ := d3.put hpr (bl p, (chF L p).length - 1, cp p) (L.map Prod.snd) (fun y hy => by
          unfold upm at hy
          have hyn : chF L y ≠ [] := by
            by_cases q : y = p
            · rw [q]; exact hne
            · rw [if_neg q] at hy
              unfold chO at hy
              intro e
              rw [if_pos e] at hy
              cases hy
          obtain ⟨z, hz⟩ := List.exists_mem_of_ne_nil _ hyn
          exact List.mem_map.2 ⟨_, par_mem ((mem_chF hW.1).1 hz), rfl⟩) (by rw [List.length_map]; omega)
        refine ⟨w4, by rw [if_neg z]; exact hd4, h.cutEnd hF hW hp hm1 hg1 hb2 r3 hg3 ?_ hg4⟩
        rw [if_neg (fun e => z (by rw [← hcut, e]; rfl))]
        exact hm4)
    obtain ⟨n, hn⟩ : ∃ n, n = (chF L p).length := ⟨_, rfl⟩
    obtain ⟨i, hi⟩ : ∃ i, i = cntI (chF L p) c := ⟨_, rfl⟩
    obtain ⟨L', hL'⟩ : ∃ L', L' = freeF L c := ⟨_, rfl⟩
    obtain ⟨b, hb⟩ : ∃ b, b = bl p := ⟨_, rfl⟩
    obtain ⟨cc, hcc⟩ : ∃ cc, cc = cp p := ⟨_, rfl⟩
    rw [← hn, ← hb, ← hcc] at hl1 HBs HDl
    rw [← hi] at HBs HDl hlt
    rw [← hn] at hlt hcl
    rw [← hL'] at HDl ⊢
    clear h00 h hF hp hW hm hne ho hm1 hg1 k1 d1 r1 hn hi hL' hb hcc hpr hc
    go_enter Tryz.func114, Tryz.ntmps114
    go_wp2_with (at_builtin; refine wpList_del9 rfl (.tmp 24) (.tmp 25) 139 81 rfl _ _ rfl rfl (hd1 _) ?_)
    refine HBs.out.mono ?_
    rintro e w2 ⟨rfl, b2⟩
    have HD := Lib.hid (HDl.out w2 b2)
    clear b2 HBs HDl
    have hw : IntKind.i64.wrap ((i : Int) + 1) = (i : Int) + 1 := by rw [IntKind.wrap_i64]; omega
    go_wp2_with fail
    refine HD.out.mono ?_
    rintro e w3 ⟨rfl, c13, hg3, w4, hrun, hch⟩
    have HCh := Lib.hid hch
    clear hch HD
    by_cases z : n - 1 = 0
    · rw [if_pos z] at hrun
      rw [z]
      go_wp2_with (at_builtin; refine wpList_del9 rfl (.tmp 49) (.tmp 50) 140 81 rfl _ _ rfl rfl (hrun _) ?_)
      go_ret
      exact ⟨rfl, HCh.out⟩
    · rw [if_neg z] at hrun
      obtain ⟨m, hm⟩ : ∃ m, m = n - 1 := ⟨_, rfl⟩
      rw [← hm] at z hrun ⊢
      have z1 : ¬ ((m : Int) = 0) := by omega
      clear hm
      go_wp2
      go_ret
      exact ⟨rfl, HCh.out⟩
set_option maxRecDepth 100000 in
theorem LF.hangEnd (h : LF w g L gp gc bl cp) (hF : ∀ b, F b ↔ lfoot9 L g gp gc bl b) (hW : WF L) (hL : L.length ≤ 1000) (hcp : parO L c = none) (hc : Rg c) (hp : Rg p) (hb1 : Below w.heap.size w w1) {b cap : Nat}
    (hr2 : OwnD w2 0 (.slice (some ⟨b, 0, none⟩) ((chF L p).length + 1) cap) ((chF L p).length + 1) (putI (chF L p) c)) (hg2 : w1.grownBy w2 (cV (chO L bl cp p)).ownBlock) (hb : (cV (chO L bl cp p)).ownBlock = some b ∨ w.heap.size ≤ b) :
    ∃ w3 w4, (Instr.mapUpdate 140 (.map (some gc)) (.int .i64 p) (.slice (some ⟨b, 0, none⟩) ((chF L p).length + 1) cap)).run Tryz.prog w2 = .ok () w3 ∧ (Instr.mapUpdate 139 (.map (some gp)) (.int .i64 c) (.int .i64 p)).run Tryz.prog w3 = .ok () w4 ∧ ChF LFB w w4 g F (setF L c p) ∧ w2.cell? ⟨g, 1, none⟩ = some (.map (some gc)) ∧ w3.cell? ⟨g, 0, none⟩ = some (.map (some gp)) ∧ w3.cell? ⟨g, 1, none⟩ = some (.map (some gc)) ∧ g < w2.heap.size ∧ g < w3.heap.size := by
  have h1 := h.keep hb1
  have hs := ch_set_self (p := p) hW.1 hcp
  have hso : ∀ x, x ≠ p → chF (setF L c p) x = chF L x := fun x hx => ch_set_other hW.1 hcp hx
  have hown : ∀ k, (cV (chO L bl cp p)).ownBlock = some k → chF L p ≠ [] ∧ k = bl p := fun k e => by
    unfold chO at e
    by_cases q : chF L p = []
    · rw [if_pos q] at e; cases e
    · rw [if_neg q] at e
      injection e with e
      exact ⟨q, e.symm⟩
  have hst : ∀ k, k < w1.heap.size → (chF L p ≠ [] → k ≠ bl p) → w2.heap[k]? = w1.heap[k]? := fun k hk hne => hg2.block k hk (fun e => by
    obtain ⟨q1, q2⟩ := hown k e.symm
    exact hne q1 q2)
  have k2 : Blk w2 g 142 #[.map (some gp), .map (some gc)] := h1.blk.same (hst g h1.blk.lt (fun q e => (h.off p q).1 e.symm))
  have d2 : MF cK w2 gc (chO L bl cp) := h1.chd.same (hst gc h1.chd.lt (fun q e => (h.off p q).2.2 e.symm))
  have m2 : MF pK w2 gp (parO L) := h1.par.same (hst gp h1.par.lt (fun q e => (h.off p q).2.1 e.symm))
  have hne2 : ∀ y, chF L y ≠ [] → y ∈ L.map Prod.snd := fun y hy => by
    obtain ⟨z, hz⟩ := List.exists_mem_of_ne_nil _ hy
    exact List.mem_map.2 ⟨_, par_mem ((mem_chF hW.1).1 hz), rfl⟩
  obtain ⟨w3, hr3, d3, hg3⟩ := d2.put hp (b, (chF L p).length + 1, cap) (p :: L.map Prod.snd) (fun y hy => by
    unfold upm at hy
    by_cases q : y = p
    · rw [q]; exact List.mem_cons_self
    · rw [if_neg q] at hy
      refine List.mem_cons_of_mem _ (hne2 y (fun e => ?_))
      unfold chO at hy
      rw [if_pos e] at hy
      cases hy) (by rw [List.length_cons, List.length_map]; omega)
  have m3 : MF pK w3 gp (parO L) := m2.same (grown_at hg3 m2.lt h.ne3)
  have k3 : Blk w3 g 142 #[.map (some gp), .map (some gc)] := k2.same (grown_at hg3 k2.lt h.ne2)
  obtain ⟨w4, hr4, m4, hg4⟩ := m3.put hc p (c :: L.map Prod.fst) (fun y hy => by
    unfold upm at hy
    by_cases q : y = c
    · rw [q]; exact List.mem_cons_self
    · rw [if_neg q] at hy
      obtain ⟨z, hz⟩ := Option.isSome_iff_exists.1 hy
      exact List.mem_cons_of_mem _ (List.mem_map.2 ⟨_, par_mem hz, rfl⟩)) (by rw [List.length_cons, List.length_map]; omega)
  have hb0 : b ≠ g ∧ b ≠ gp ∧ b ≠ gc := by
    rcases hb with q | q
    · obtain ⟨q1, q2⟩ := hown b q
      rw [q2]; exact h.off p q1
    · have := h.blk.lt; have := h.par.lt; have := h.chd.lt
      exact ⟨by omega, by omega, by omega⟩
  refine ⟨w3, w4, hr3, hr4, ?_, k2.cell 1, k3.cell 0, k3.cell 1, k2.lt, k3.lt⟩
  refine (h.step (L' := setF L c p) (bl' := fun x => if x = p then b else bl x) (cp' := fun x => if x = p then cap else cp x) (p := p) hF (fr_grown (fr_grown (fr_grown (fr_below (fr_none w _) hb1) hg2 (fun k e => Or.inl (Or.inr (Or.inr (hown k e))))) hg3 (fun k e => Or.inl (Or.inr (Or.inl (by injection e with e; exact e.symm))))) hg4 (fun k e => Or.inl (Or.inl (by injection e with e; exact e.symm)))) ?_ ?_ ?_ ?_ (fun x hx => ⟨hso x hx, if_neg hx, if_neg hx⟩) (set_rng h.rng hc hp)).2
  · exact MF.eq m4 (fun x _ => by rw [par_set]; rfl)
  · refine MF.eq (d3.same (grown_at hg4 d3.lt (fun e => h.ne3 e.symm))) (fun x _ => ?_)
    unfold upm chO
    by_cases q : x = p
    · subst q
      rw [hs, putI_len, if_neg (fun e => by have := putI_len (chF L x) c; rw [e] at this; simp at this), if_pos rfl]
      simp
    · simp [hso x q, q]
  · intro _
    rw [hs, putI_len, if_pos rfl, if_pos rfl]
    have hb3 : b < w3.heap.size := Nat.lt_of_lt_of_le (hr2.lt _ rfl).2 hg3.size
    exact hr2.same (fun k e => by
      injection e with e
      have e : b = k := e
      subst e
      exact (grown_at hg4 hb3 hb0.2.1).trans (grown_at hg3 (hr2.lt _ rfl).2 hb0.2.2))
  · intro _
    rw [if_pos rfl]
    rcases hb with q | q
    · exact Or.inl (hown b q)
    · exact Or.inr q
set_option maxHeartbeats 4000000 in
set_option maxRecDepth 100000 in
theorem lhang_any (h0 : LFB w g F L) (hW : WF L) (hL : L.length ≤ 1000) (hc : Rg c) (hp : Rg p) (hcp : parO L c = none) :
    Calls Tryz.prog 115 #[.pointer (some ⟨g, 0, none⟩), .int .i64 c, .int .i64 p] w fun e w' => e = .returned (.tuple #[]) ∧ ChF LFB w w' g F (setF L c p) := by
  obtain ⟨gp, gc, bl, cp, h, hF⟩ := h0
  have hcl := chF_len L p
  have hle := cntI_le (chF L p) c
  have HLk : Hid (∀ u, Below w.heap.size w u → u.cell? ⟨g, 1, none⟩ = some (.map (some gc)) ∧ g < u.heap.size) := Lib.hid (fun u q => ⟨(h.keep q).c1, (h.keep q).blk.lt⟩)
  have hl : (Instr.lookup 140 (.map (some gc)) (.int .i64 p) false).run Tryz.prog w = .ok (cV (chO L bl cp p)) w := h.chd.get hp
  have HBs : Hid (Calls Tryz.prog 182 #[cV (chO L bl cp p), .int .i64 c] w fun e w2 => ∃ fb, e = .returned (.tuple #[.int .i64 (cntI (chF L p) c : Nat), .bool fb]) ∧ Below w.heap.size w w2) := Lib.hid (by
    obtain ⟨a, cap, e, hr⟩ := h.rowOf p
    rw [e]
    exact (find9_below (cap := cap) hr (by omega) (up_le (chF_up hW.1 p)) c).mono fun _ _ q => ⟨_, q⟩)
  have HIn : Hid (∀ u, Below w.heap.size w u → Calls Tryz.prog 184 #[cV (chO L bl cp p), .int .i64 (cntI (chF L p) c : Nat), .slice (some ⟨u.heap.size, 0, none⟩) 1 1] (u.alloc (.cells #[.int .i64 c] 81)) fun e w2 => ∃ b cap, e = .returned (.slice (some ⟨b, 0, none⟩) ((chF L p).length + 1) cap) ∧ ∃ w3 w4, (Instr.mapUpdate 140 (.map (some gc)) (.int .i64 p) (.slice (some ⟨b, 0, none⟩) ((chF L p).length + 1) cap)).run Tryz.prog w2 = .ok () w3 ∧ (Instr.mapUpdate 139 (.map (some gp)) (.int .i64 c) (.int .i64 p)).run Tryz.prog w3 = .ok () w4 ∧ ChF LFB w w4 g F (setF L c p) ∧ w2.cell? ⟨g, 1, none⟩ = some (.map (some gc)) ∧ w3.cell? ⟨g, 0, none⟩ = some (.map (some gp)) ∧ w3.cell? ⟨g, 1, none⟩ = some (.map (some gc)) ∧ g < w2.heap.size ∧ g < w3.heap.size) := Lib.hid (fun u q => by
    have hal : Below u.heap.size u (u.alloc (.cells #[.int .i64 c] 81)) := alloc_below _ _
    have hb1 : Below w.heap.size w (u.alloc (.cells #[.int .i64 c] 81)) := bthen q hal
    have hf := (h.keep hb1).fam p
    have hfu := (h.keep q).fam p
    refine (ins9_any (i := cntI (chF L p) c) hf (Nat.zero_le _) (Blk.new u _ _) (fun e => by have := (hfu.lt _ e).2; omega) hle (by omega)).mono ?_
    rintro e w2 ⟨b, cap, rfl, r2, g2, hb⟩
    refine ⟨b, cap, rfl, h.hangEnd hF hW hL hcp hc hp hb1 r2 g2 (hb.imp_right (fun k => Nat.le_trans hb1.size k))⟩)
  obtain ⟨a0, cap0, hv, hr0⟩ := h.rowOf p
  obtain ⟨n, hn⟩ : ∃ n, n = (chF L p).length := ⟨_, rfl⟩
  obtain ⟨i, hi⟩ : ∃ i, i = cntI (chF L p) c := ⟨_, rfl⟩
  obtain ⟨L', hL'⟩ : ∃ L', L' = setF L c p := ⟨_, rfl⟩
  rw [hv] at hl HBs HIn
  rw [← hn] at hl HBs HIn
  rw [← hi] at HBs HIn
  rw [← hL'] at HIn ⊢
  obtain ⟨c1, hg⟩ := HLk.out w (Below.refl _ _)
  clear h hF hW hcp hv hr0 hn hi hL' hcl hle hc hp
  go_enter Tryz.func115, Tryz.ntmps115
  go_wp2_with fail
  refine HBs.out.mono ?_
  rintro e w1 ⟨fb, rfl, b1⟩
  have HB := Lib.hid b1
  obtain ⟨c11, hg1⟩ := HLk.out w1 b1
  clear b1 c1 hg hl HBs
  go_wp2
  go_region_held3 (fun w' => w'.cell? ⟨g, 1, none⟩ = some (.map (some gc))) (first | exact c11 | go_keep)
    (first | (go_at_call 184; refine (HIn.out _ (bthen HB.out (bdrewn (Below.refl _ _)))).mono ?_; rintro e w2 ⟨b, cap, rfl, w3, w4, hr3, hr4, hch, c2, c3, c4, z2, z3⟩; have HCh := Lib.hid hch; clear hch))
  go_wp2
  go_end0
  exact ⟨rfl, HCh.out⟩
end
section
variable {FB : World → Nat → (Nat → Prop) → FT → Prop}
end
section
variable {w : World} {g : Nat} {L : FT} {F : Nat → Prop}
set_option maxHeartbeats 4000000 in
set_option maxRecDepth 100000 in
theorem lset_any (h : LFB w g F L) (hW : WF L) (hL : L.length ≤ 1000) {c p : Int} (hc : Rg c) (hp : Rg p) :
    Calls Tryz.prog 63 #[.pointer (some ⟨g, 0, none⟩), .int .i64 c, .int .i64 p] w fun e w' => e = .returned (.int .i64 (fsetE L c p)) ∧ ChF LFB w w' g F (setS9 L c p) := by
  have HSt : Hid (∀ u, Below w.heap.size w u → ChF LFB w u g F L) := Lib.hid (fun u q => ⟨F, h.keep q, ⟨q.os, q.tape, q.output, q.size, fun b hl _ => q.block b hl⟩, fun _ k => Or.inl k⟩)
  by_cases hcp : c = p
  · have HE : Hid (fsetE L c p = 8 ∧ setS9 L c p = L) := Lib.hid (by
      have e : fsetE L c p = 8 := by unfold fsetE; rw [if_pos (Or.inr hcp)]
      exact ⟨e, by unfold setS9; rw [e, if_neg (by omega)]⟩)
    rw [HE.out.1, HE.out.2]
    subst hcp
    clear h hW hc hp
    go_enter Tryz.func63, Tryz.ntmps63
    go_wp2
    go_ret
    exact ⟨rfl, HSt.out _ (Below.refl _ _)⟩
  · have hcp' : (c == p) = false := by simpa using hcp
    have HI : Hid (Calls Tryz.prog 113 #[.pointer (some ⟨g, 0, none⟩), .int .i64 c, .int .i64 p] w fun e w' => e = .returned (.bool (decide (c ∈ abv L p))) ∧ Below w.heap.size w w') := Lib.hid (by
      obtain ⟨gp, gc, bl, cp, h1, _⟩ := h
      exact lisAbove_any h1 hW hc hp)
    by_cases hab : c ∈ abv L p
    · have HE : Hid (fsetE L c p = 8 ∧ setS9 L c p = L) := Lib.hid (by
        have e : fsetE L c p = 8 := by unfold fsetE; rw [if_pos (Or.inl hab)]
        exact ⟨e, by unfold setS9; rw [e, if_neg (by omega)]⟩)
      rw [HE.out.1, HE.out.2]
      rw [decide_eq_true hab] at HI
      clear h hW hc hp hab
      go_enter Tryz.func63, Tryz.ntmps63
      go_wp2_with fail
      refine HI.out.mono ?_
      rintro e w1 ⟨rfl, b1⟩
      have HS := Lib.hid (HSt.out _ b1)
      clear b1 HI HSt
      go_wp2
      go_ret
      exact ⟨rfl, HS.out⟩
    · have HE : Hid (fsetE L c p = 0 ∧ setS9 L c p = setF L c p) := Lib.hid (by
        have e : fsetE L c p = 0 := by unfold fsetE; rw [if_neg (fun k => k.elim hab hcp)]
        exact ⟨e, by unfold setS9; rw [e, if_pos rfl]⟩)
      rw [HE.out.1, HE.out.2]
      rw [decide_eq_false hab] at HI
      have HLo : Hid (∀ u, Below w.heap.size w u → Calls Tryz.prog 114 #[.pointer (some ⟨g, 0, none⟩), .int .i64 c] u fun e w2 => ∃ fb, e = .returned (.bool fb) ∧ Calls Tryz.prog 115 #[.pointer (some ⟨g, 0, none⟩), .int .i64 c, .int .i64 p] w2 fun e w3 => e = .returned (.tuple #[]) ∧ ChF LFB w w3 g F (setF L c p)) := Lib.hid (fun u q => by
        refine (lloosen_any (h.keep q) hW hL hc).mono ?_
        rintro e w2 ⟨rfl, F1, k1, k2, k3⟩
        refine ⟨_, rfl, (lhang_any k1 (hW.free c) (Nat.le_trans (free_len L c) hL) hc hp (by rw [par_free, if_pos rfl])).mono ?_⟩
        rintro e w3 ⟨rfl, k4⟩
        refine ⟨rfl, ?_⟩
        have e1 : setF (freeF L c) c p = setF L c p := by unfold setF; rw [free_twice]
        rw [e1] at k4
        exact (ChF.join k2 k3 k4).of q)
      clear h hW hc hp hab HSt
      go_enter Tryz.func63, Tryz.ntmps63
      go_wp2_with fail
      refine HI.out.mono ?_
      rintro e w1 ⟨rfl, b1⟩
      have HL := Lib.hid (HLo.out _ b1)
      clear b1 HI HLo
      go_wp2_with fail
      refine HL.out.mono ?_
      rintro e w2 ⟨fb, rfl, hh⟩
      have HH := Lib.hid hh
      clear hh HL
      go_wp2_with fail
      refine HH.out.mono ?_
      rintro e w3 ⟨rfl, hch⟩
      have HC := Lib.hid hch
      clear hch HH
      go_wp2
      go_ret
      exact ⟨rfl, HC.out⟩
set_option maxHeartbeats 4000000 in
set_option maxRecDepth 100000 in
theorem lfree_any (h : LFB w g F L) (hW : WF L) (hL : L.length ≤ 1000) {a : Option Addr} {n cap : Nat} {xs : List Int} (hn : n ≤ 1000) (hr : Row w a n xs) (ha : Aw F a n) (hx : Rgs xs) :
    Calls Tryz.prog 95 #[.pointer (some ⟨g, 0, none⟩), .slice a n cap] w fun e w' => e = .returned (.int .i64 (frN L xs : Nat)) ∧ ChF LFB w w' g F (freeS L xs) := by
  have HSt : Hid (ChF LFB w w g F (freeS L (xs.take 0))) := Lib.hid ⟨F, h, fr_none w F, fun _ k => Or.inl k⟩
  have HRow : Hid (∀ u, Fr w u F → Row u a n xs) := Lib.hid (fun u q => row_frame hr ha q)
  have HLen := Lib.hid hr.1
  have HLo : Hid (∀ (u : World) (j : Nat) (z : Int), xs[j]? = some z → ChF LFB w u g F (freeS L (xs.take j)) → Calls Tryz.prog 114 #[.pointer (some ⟨g, 0, none⟩), .int .i64 z] u fun e w2 => e = .returned (.bool (parO (freeS L (xs.take j)) z).isSome) ∧ ChF LFB w w2 g F (freeS L (xs.take (j + 1)))) := Lib.hid (fun u j z hz q => by
    obtain ⟨F1, k1, k2, k3⟩ := q
    refine (lloosen_any k1 (WF.frees _ hW) (Nat.le_trans (frees_len _ _) hL) (hx z (List.mem_of_getElem? hz))).mono ?_
    rintro e w2 ⟨rfl, k4⟩
    refine ⟨rfl, ?_⟩
    rw [frees_snoc hz]
    exact ChF.join k2 k3 k4)
  clear h hW hr ha hx
  go_enter Tryz.func95, Tryz.ntmps95
  go_wp2
  go_loopw [5, 7, 12] (fun v5 _ i wr => ∃ j : Nat, j ≤ n ∧ i = .int .i64 j ∧ v5 = .int .i64 (frN L (xs.take j) : Nat) ∧ ChF LFB w wr g F (freeS L (xs.take j))) (fun _ _ i _ => n - (ivl i).toNat)
  case atStart => exact ⟨0, by omega, rfl, rfl, HSt.out⟩
  case round =>
    clear HSt
    obtain ⟨j, hj, rfl, rfl, hch⟩ := hrel
    have HCh := Lib.hid hch
    have HR : Hid (Row wr a n xs) := Lib.hid (by
      obtain ⟨_, _, q, _⟩ := hch
      exact HRow.out wr q)
    have hfl := frN_le (xs.take j) L
    rw [List.length_take] at hfl
    obtain ⟨cn, hcn⟩ : ∃ cn, cn = frN L (xs.take j) := ⟨_, rfl⟩
    rw [← hcn] at hfl ⊢
    have HCn := Lib.hid hcn
    clear hch hcn
    by_cases hlt : j < n
    · obtain ⟨b, off, z, rfl, hz, cz⟩ := row_at HR.out hlt
      have hbl := World.block_lt_of_cell? _ _ cz
      have HSn := Lib.hid (frN_snoc (L := L) hz)
      rw [← HCn.out] at HSn
      have HF := Lib.hid (HLo.out wr j z hz HCh.out)
      have j0 : (0 : Int) ≤ (j : Int) := by omega
      have j1 : (j : Int) < (n : Int) := by omega
      obtain ⟨hb, hhb⟩ : ∃ hb, hb = (parO (freeS L (xs.take j)) z).isSome := ⟨_, rfl⟩
      rw [← hhb] at HF HSn
      clear hz hhb
      go_wp2_with fail
      refine HF.out.mono ?_
      rintro e w2 ⟨rfl, hch⟩
      have HC2 := Lib.hid hch
      clear hch HF
      cases hb with
      | false =>
        go_wp2
        go_roundw
        case rel => exact ⟨j + 1, by omega, by go_num, by rw [HSn.out]; rfl, HC2.out⟩
        case measure => simp [ivl] <;> omega
      | true =>
        go_wp2
        go_roundw
        case rel => exact ⟨j + 1, by omega, by go_num, by rw [HSn.out]; go_num, HC2.out⟩
        case measure => simp [ivl] <;> omega
    · obtain rfl : j = n := by omega
      have e0 : xs.take j = xs := List.take_of_length_le (by rw [HLen.out]; exact Nat.le_refl _)
      rw [e0] at HCh HCn
      have j1 : ¬ (j : Int) < (j : Int) := by omega
      clear e0
      go_wp2
      go_ret
      exact ⟨by rw [HCn.out]; rfl, HCh.out⟩
def dpm (L : FT) (C : List Int) (j : Nat) (z : Int) : Option Int := if z ∈ C.take j then none else parO L z
theorem dpm_step {L : FT} {C : List Int} {j : Nat} {y : Int} (h : C[j]? = some y) (z : Int) : dpm L C (j + 1) z = upm (dpm L C j) y none z := by
  unfold dpm upm
  rw [List.take_add_one, h]
  by_cases q : z = y
  · rw [if_pos q, if_pos (by rw [q]; simp)]
  · rw [if_neg q]
    show _ = if z ∈ C.take j then none else parO L z
    by_cases k : z ∈ C.take j
    · rw [if_pos k, if_pos (List.mem_append_left _ k)]
    · rw [if_neg k, if_neg (fun m => (List.mem_append.1 m).elim k (fun m => q (by simpa using m)))]
set_option maxHeartbeats 4000000 in
set_option maxRecDepth 100000 in
theorem ldrop_any (h : LFB w g F L) (hW : WF L) (hL : L.length ≤ 1000) {x : Int} (hx : Rg x) :
    Calls Tryz.prog 66 #[.pointer (some ⟨g, 0, none⟩), .int .i64 x] w fun e w' => ∃ v, e = .returned v ∧ LDr F w w' (chF L x) v ∧ ChF LFB w w' g F (dropF L x) := by
  have HLo := Lib.hid (lloosen_any h hW hL hx)
  have HW := Lib.hid hW
  obtain ⟨C, hC⟩ : ∃ C, C = chF L x := ⟨_, rfl⟩
  obtain ⟨L2, hL2⟩ : ∃ L2, L2 = dropF L x := ⟨_, rfl⟩
  rw [← hC, ← hL2]
  have HC9 := Lib.hid hC
  have HL9 := Lib.hid hL2
  clear h hW hC hL2
  go_enter Tryz.func66, Tryz.ntmps66
  go_wp2_with fail
  refine HLo.out.mono ?_
  rintro e w1 ⟨rfl, F1, ⟨gp, gc, bl, cp, h1, hF1⟩, hfr1, hsub1⟩
  clear HLo
  have c1 := h1.c1
  have hg := h1.blk.lt
  have hsame := ch_free_same HW.out x
  obtain ⟨a, cap, hv, hr⟩ := h1.rowOf x
  have hl : (Instr.lookup 140 (.map (some gc)) (.int .i64 x) false).run Tryz.prog w1 = .ok (cV (chO (freeF L x) bl cp x)) w1 := h1.chd.get hx
  obtain ⟨w2, hd2, hm2, hg2⟩ := h1.chd.del hx
  replace hd2 : ∀ ty, (Builtin.delete_ #[140, 81] ty #[.map (some gc), .int .i64 x]).run Tryz.prog w1 = .ok (.tuple #[]) w2 := hd2
  have hfam : chF (freeF L x) x ≠ [] → a = some ⟨bl x, 0, none⟩ := fun q => by
    unfold chO at hv
    rw [if_neg q] at hv
    injection hv with e _ _
    exact e.symm
  rw [hsame] at hv hr hfam
  have HRow : Hid (∀ u, w2.grownBy u (some gp) → Row u a (chF L x).length (chF L x)) := Lib.hid (fun u q => by
    by_cases e : chF L x = []
    · refine ⟨rfl, by rw [e]; simp, Or.inl (by rw [e]; rfl)⟩
    · have e2 := hfam e
      have hne : chF (freeF L x) x ≠ [] := by rw [hsame]; exact e
      have ho := h1.off x hne
      have hlt := ((h1.row x hne).lt _ rfl).2
      have hk1 := grown_at hg2 hlt ho.2.2
      have hk2 := grown_at q (Nat.lt_of_lt_of_le hlt hg2.size) ho.2.1
      refine ⟨hr.1, hr.2.1, hr.2.2.imp id (fun ⟨b, off, e3, hc⟩ => ⟨b, off, e3, fun i hi => ?_⟩)⟩
      rw [e2] at e3
      injection e3 with e3
      injection e3 with e4 e5 _
      rw [← hc i hi]
      simp only [World.cell?]
      rw [← e4, hk2, hk1])
  have hpar2 : MF pK w2 gp (dpm (freeF L x) (chF L x) 0) := (h1.par.same (grown_at hg2 h1.par.lt h1.ne3)).eq (fun z _ => by unfold dpm; rw [List.take_zero, if_neg (by simp)])
  have HPar := Lib.hid hpar2
  have HDel : Hid (∀ (u : World) (j : Nat) (y : Int), (chF L x)[j]? = some y → MF pK u gp (dpm (freeF L x) (chF L x) j) → ∃ u', (∀ ty, (Builtin.delete_ #[139, 81] ty #[.map (some gp), .int .i64 y]).run Tryz.prog u = .ok (.tuple #[]) u') ∧ MF pK u' gp (dpm (freeF L x) (chF L x) (j + 1)) ∧ u.grownBy u' (some gp)) := Lib.hid (fun u j y hy hm => by
    have hyr : Rg y := ch_rng (free_nod HW.out.1 x) h1.rng (x := x) (by rw [hsame]; exact List.mem_of_getElem? hy)
    obtain ⟨u', k1, k2, k3⟩ := hm.del hyr
    exact ⟨u', k1, k2.eq (fun z _ => dpm_step hy z), k3⟩)
  have HCell : Hid (∀ u, w2.grownBy u (some gp) → u.cell? ⟨g, 0, none⟩ = some (.map (some gp)) ∧ g < u.heap.size) := Lib.hid (fun u q => by
    have k2 : Blk w2 g 142 #[.map (some gp), .map (some gc)] := h1.blk.same (grown_at hg2 hg h1.ne2)
    have k3 := k2.same (grown_at q k2.lt h1.ne1)
    exact ⟨k3.cell 0, k3.lt⟩)
  have HEnd : Hid (∀ u, w2.grownBy u (some gp) → MF pK u gp (dpm (freeF L x) (chF L x) (chF L x).length) → LDr F w u (chF L x) (.slice a (chF L x).length cap) ∧ ChF LFB w u g F (dropF L x)) := Lib.hid (fun u q hm => by
    constructor
    · refine ⟨a, cap, rfl, HRow.out u q, ?_⟩
      by_cases e : chF L x = []
      · exact Or.inl (by rw [e]; rfl)
      · refine Or.inr (fun ad e2 => ?_)
        rw [hfam e] at e2
        injection e2 with e2
        rw [← e2]
        exact hsub1 _ ((hF1 _).2 (Or.inr (Or.inr (Or.inr ⟨x, by rw [hsame]; exact e, rfl⟩))))
    · refine ChF.join hfr1 hsub1 (h1.step (L' := dropF L x) (bl' := bl) (cp' := cp) (p := x) hF1 (fr_grown (fr_grown (fr_none w1 _) hg2 (fun b e => Or.inl (Or.inr (Or.inl (by injection e with e; exact e.symm))))) q (fun b e => Or.inl (Or.inl (by injection e with e; exact e.symm)))) ?_ ?_ (fun k => absurd (ch_drop_self HW.out x) k) (fun k => absurd (ch_drop_self HW.out x) k) (fun y hy => ⟨ch_drop_other HW.out hy, rfl, rfl⟩) (frees_rng _ h1.rng)).2
      · refine hm.eq (fun z _ => ?_)
        unfold dropF dpm
        rw [par_frees, List.take_length]
      · refine MF.eq (hm2.same (grown_at q hm2.lt (fun e => h1.ne3 e.symm))) (fun z _ => ?_)
        unfold upm chO
        by_cases k : z = x
        · rw [if_pos k, k, ch_drop_self HW.out x, if_pos rfl]
        · rw [if_neg k, ch_drop_other HW.out k])
  rw [hv] at hl
  have hcl := chF_len L x
  obtain ⟨n, hn⟩ : ∃ n, n = C.length := ⟨_, rfl⟩
  obtain ⟨L1, hL1⟩ : ∃ L1, L1 = freeF L x := ⟨_, rfl⟩
  rw [← HC9.out] at hl HRow HPar HDel HEnd hcl
  rw [← hn] at hl HRow HEnd hcl
  rw [← hL1] at HPar HDel HEnd
  rw [← HL9.out] at HEnd
  clear h1 hF1 hfr1 hsub1 hr hfam hm2 hg2 hpar2 hsame hL1 hn hx hv HW HC9 HL9
  go_wp2_with (at_builtin; refine wpList_del9 rfl (.tmp 22) (.tmp 23) 140 81 rfl _ _ rfl rfl (hd2 _) ?_)
  clear hl hd2 c1 hg
  go_loopw [7, 26] (fun _ i wr => ∃ j : Nat, j ≤ n ∧ i = .int .i64 j ∧ MF pK wr gp (dpm L1 C j) ∧ w2.grownBy wr (some gp)) (fun _ i _ => n - (ivl i).toNat)
  case atStart => exact ⟨0, by omega, rfl, HPar.out, ⟨rfl, rfl, rfl, Nat.le_refl _, fun _ _ _ => rfl⟩⟩
  case round =>
    clear HPar
    obtain ⟨j, hj, rfl, hm, hgr⟩ := hrel
    have HM := Lib.hid hm
    have HG := Lib.hid hgr
    obtain ⟨c0, hg⟩ := HCell.out wr hgr
    have HR := Lib.hid (HRow.out wr hgr)
    clear hm hgr
    by_cases hlt : j < n
    · obtain ⟨b, off, y, rfl, hy, cy⟩ := row_at HR.out hlt
      have hbl := World.block_lt_of_cell? _ _ cy
      obtain ⟨w3, hd3, hm3, hg3⟩ := HDel.out wr j y hy HM.out
      have K3 := Lib.hid (And.intro hm3 (grown_trans HG.out hg3))
      have j0 : (0 : Int) ≤ (j : Int) := by omega
      have j1 : (j : Int) < (n : Int) := by omega
      clear hy hm3 hg3
      go_wp2_with (at_builtin; refine wpList_del9 rfl (.tmp 33) (.tmp 34) 139 81 rfl _ _ rfl rfl (hd3 _) ?_)
      go_roundw
      case rel => exact ⟨j + 1, by omega, by go_num, K3.out.1, K3.out.2⟩
      case measure => simp [ivl] <;> omega
    · obtain rfl : j = n := by omega
      have HE := Lib.hid (HEnd.out wr HG.out (by have := HM.out; exact this))
      have j1 : ¬ (j : Int) < (j : Int) := by omega
      go_wp2
      go_ret
      exact ⟨_, rfl, HE.out⟩
set_option maxHeartbeats 2000000 in
set_option maxRecDepth 100000 in
theorem lfnew_any (w : World) :
    Calls Tryz.prog 26 #[] w fun e w' => ∃ g F, e = .returned (.pointer (some ⟨g, 0, none⟩)) ∧ LFB w' g F [] ∧ (∀ b, F b → w.heap.size ≤ b) ∧ Below w.heap.size w w' := by
  have hmm := @run_makeMap Tryz.prog
  have HE : Hid (∃ F, LFB (((w.alloc (.map #[] 0)).alloc (.map #[] 0)).alloc (.cells #[.map (some w.heap.size), .map (some (w.heap.size + 1))] 142)) (w.heap.size + 2) F [] ∧ (∀ b, F b → w.heap.size ≤ b) ∧ Below w.heap.size w (((w.alloc (.map #[] 0)).alloc (.map #[] 0)).alloc (.cells #[.map (some w.heap.size), .map (some (w.heap.size + 1))] 142))) := Lib.hid (by
    have s1 : (w.alloc (.map #[] 0)).heap.size = w.heap.size + 1 := by simp
    have s2 : ((w.alloc (.map #[] 0)).alloc (.map #[] 0)).heap.size = w.heap.size + 2 := by simp
    have b1 : Below w.heap.size w (w.alloc (.map #[] 0)) := alloc_below _ _
    have b2 : Below (w.alloc (.map #[] 0)).heap.size (w.alloc (.map #[] 0)) ((w.alloc (.map #[] 0)).alloc (.map #[] 0)) := alloc_below _ _
    have b3 : Below ((w.alloc (.map #[] 0)).alloc (.map #[] 0)).heap.size ((w.alloc (.map #[] 0)).alloc (.map #[] 0)) (((w.alloc (.map #[] 0)).alloc (.map #[] 0)).alloc (.cells #[.map (some w.heap.size), .map (some (w.heap.size + 1))] 142)) := alloc_below _ _
    have m1 := ((MF.new pK w).keep b2).keep b3
    have m2 := (MF.new cK (w.alloc (.map #[] 0))).keep b3
    rw [s1] at m2
    have k := Blk.new ((w.alloc (.map #[] 0)).alloc (.map #[] 0)) 142 #[.map (some w.heap.size), .map (some (w.heap.size + 1))]
    rw [s2] at k
    have hnil : ∀ x, chF [] x = [] := fun x => rfl
    refine ⟨lfoot9 [] (w.heap.size + 2) w.heap.size (w.heap.size + 1) (fun _ => 0), ⟨w.heap.size, w.heap.size + 1, fun _ => 0, fun _ => 0, ⟨k, m1, m2, fun x hx => absurd (hnil x) hx, fun x _ hx => absurd (hnil x) hx, by omega, by omega, by omega, fun x hx => absurd (hnil x) hx, fun p hp => by cases hp⟩, fun _ => Iff.rfl⟩, ?_, bthen (bthen b1 b2) b3⟩
    rintro b (e | e | e | ⟨x, hx, _⟩)
    · omega
    · omega
    · omega
    · exact absurd (hnil x) hx)
  go_enter Tryz.func26, Tryz.ntmps26
  go_wp2
  go_ret
  obtain ⟨F, h1, h2, h3⟩ := HE.out
  exact ⟨_, F, rfl, h1, h2, h3⟩
end
theorem undL_nod {L : FT} (h : WF L) (l : List Int) : (undL L l).Nodup := und_nod h (sort_sorted l [] List.Pairwise.nil)
theorem undL_len {L : FT} (h : WF L) (l : List Int) : (undL L l).length ≤ l.length + L.length := by
  have h1 := und_len h (ns := sortI l) (sort_sorted l [] List.Pairwise.nil)
  have h2 := (sortI_perm l).length_eq
  unfold undL
  omega
theorem nod_take {U : List Int} (h : U.Nodup) {i : Nat} {u : Int} (hu : U[i]? = some u) : u ∉ U.take i := fun hm => by
  obtain ⟨j, hj, e⟩ := List.mem_iff_getElem.1 hm
  rw [List.length_take] at hj
  rw [List.getElem_take] at e
  obtain ⟨hi, e2⟩ := List.getElem?_eq_some_iff.1 hu
  have := List.pairwise_iff_getElem.1 h j i (by omega) hi (by omega)
  exact this (e.trans e2.symm)
section
variable {FB : World → Nat → (Nat → Prop) → FT → Prop}
end
def cmpS (l : List Int) : List Int := Lib.compact (sortI l)
theorem cmp_eq (ns : List Int) : Lib.compact ns = ((List.range ns.length).filter (fun i => decide (i = 0) || decide (ns.getD i 0 ≠ ns.getD (i - 1) 0))).map (fun i => ns.getD i 0) := by
  unfold Lib.compact Lib.compactUpTo
  have hg : ∀ i, i < ns.length → ns.toArray[i]! = ns.getD i 0 := fun i hi => by
    rw [getElem!_pos ns.toArray i (by simpa using hi)]
    simp [List.getD, hi]
  have h1 : (List.range ns.length).filter (Lib.keeps ns.toArray) = (List.range ns.length).filter (fun i => decide (i = 0) || decide (ns.getD i 0 ≠ ns.getD (i - 1) 0)) := by
    refine List.filter_congr (fun i hi => ?_)
    rw [List.mem_range] at hi
    by_cases q : i = 0
    · rw [Lib.keeps_lt_one _ i (by omega), decide_eq_true q]
      rfl
    · have e1 := hg i hi
      have e2 := hg (i - 1) (by omega)
      by_cases k : ns.getD i 0 = ns.getD (i - 1) 0
      · rw [Lib.keeps_neg (by omega) (by rw [e1, e2]; exact k), decide_eq_false q, decide_eq_false (fun c => c k)]
        rfl
      · rw [Lib.keeps_pos (by rw [e1, e2]; exact k), decide_eq_true k, Bool.or_true]
  rw [h1]
  refine List.map_congr_left (fun i hi => ?_)
  exact hg i (List.mem_range.1 (List.mem_filter.1 hi).1)
theorem mem_cmp {ns : List Int} {z : Int} : z ∈ Lib.compact ns ↔ z ∈ ns := by
  rw [cmp_eq, List.mem_map]
  constructor
  · rintro ⟨i, hi, rfl⟩
    exact getD_mem (List.mem_range.1 (List.mem_filter.1 hi).1)
  · intro hz
    obtain ⟨i, hi, e⟩ := List.mem_iff_getElem.1 hz
    obtain ⟨j, hj, ej, hj0⟩ := first_of (ns := ns) i hi
    refine ⟨j, List.mem_filter.2 ⟨List.mem_range.2 hj, ?_⟩, ?_⟩
    · rw [Bool.or_eq_true, decide_eq_true_eq, decide_eq_true_eq]
      exact hj0
    · rw [ej, List.getD, List.getElem?_eq_getElem hi]
      exact e
theorem cmp_up {ns : List Int} (h : ns.Pairwise (· ≤ ·)) : (Lib.compact ns).Pairwise (· ≤ ·) := by
  rw [cmp_eq]
  refine List.pairwise_map.2 ((List.Pairwise.filter _ List.pairwise_lt_range).imp_of_mem (fun {a b} ha hb c => ?_))
  exact up_getD h (by omega) (List.mem_range.1 (List.mem_filter.1 hb).1)
theorem sortI_up (l : List Int) : (sortI l).Pairwise (· ≤ ·) := sort_sorted l [] List.Pairwise.nil
def topL (L : FT) (l : List Int) : List Int := (cmpS l).filter (fun x => !hasA L (cmpS l) x)
theorem hasA_mem {L : FT} {ns ms : List Int} (h : ∀ z, z ∈ ns ↔ z ∈ ms) (x : Int) : hasA L ns x = hasA L ms x := by
  unfold hasA
  congr 1
  funext a
  rw [decide_eq_decide]
  exact h a
theorem und_tops (L : FT) (l : List Int) : undL L l = (topL L l).flatMap (beh L) := by
  unfold undL undN topL cmpS
  rw [flat_if]
  have h1 : ∀ x, hasA L (Lib.compact (sortI l)) x = hasA L (sortI l) x := fun x => hasA_mem (fun z => mem_cmp) x
  rw [cmp_eq, List.filter_map, List.filter_filter, List.flatMap_map]
  congr 1
  refine List.filter_congr (fun i _ => ?_)
  rw [← cmp_eq]
  show _ = ((fun x => !hasA L (Lib.compact (sortI l)) x) ((sortI l).getD i 0) && _)
  simp only [h1]
  unfold topB hasA
  rw [Bool.and_comm, List.not_any_eq_all_not]
theorem cmpS_len (l : List Int) : (cmpS l).length ≤ l.length := by
  have h1 := Lib.compact_length_le (sortI l)
  have h2 := (sortI_perm l).length_eq
  unfold cmpS
  omega
theorem mem_cmpS {l : List Int} {z : Int} : z ∈ cmpS l ↔ z ∈ l := by
  unfold cmpS
  rw [mem_cmp, (sortI_perm l).mem_iff]
section
variable {w : World} {g gp gc : Nat} {L : FT} {bl cp : Int → Nat}
set_option maxHeartbeats 4000000 in
set_option maxRecDepth 100000 in
theorem ltops_any (h : LF w g L gp gc bl cp) (hW : WF L) {a : Option Addr} {n cap : Nat} {xs : List Int} (hn : n ≤ 1000) (hr : Row w a n xs) (hx : Rgs xs) :
    Calls Tryz.prog 197 #[.pointer (some ⟨g, 0, none⟩), .slice a n cap] w fun e w' => ∃ v, e = .returned v ∧ OwnD w' w.heap.size v (topL L xs).length (topL L xs) ∧ Below w.heap.size w w' := by
  have HCl := Lib.hid (clone9_any (cap := cap) hr (by omega))
  have hcl := cmpS_len xs
  rw [hr.1] at hcl
  have HHas : Hid (∀ u z a2 c2, Below w.heap.size w u → z ∈ cmpS xs → Row u a2 (cmpS xs).length (cmpS xs) → Calls Tryz.prog 181 #[.pointer (some ⟨g, 0, none⟩), .int .i64 z, .slice a2 (cmpS xs).length c2] u fun e w' => e = .returned (.bool (hasA L (cmpS xs) z)) ∧ Below u.heap.size u w') := Lib.hid (fun u z a2 c2 q hz hr2 => lhas_any (h.keep q) hW (hx z (mem_cmpS.1 hz)) hr2 (by omega) (cmp_up (sortI_up xs)))
  obtain ⟨i0, hi0, hz0, hz1, hz2⟩ := info_parts id_info
  have HI := Lib.hid (And.intro hi0 (And.intro hz0 (And.intro hz1 hz2)))
  have HS : Hid (Lib.compact (xs.mergeSort (fun x y => decide (x ≤ y))) = cmpS xs) := Lib.hid (by unfold cmpS; rw [srt_eq (List.Perm.refl xs)])
  obtain ⟨C, hC⟩ : ∃ C, C = cmpS xs := ⟨_, rfl⟩
  obtain ⟨T, hT⟩ : ∃ T, T = topL L xs := ⟨_, rfl⟩
  have HT : Hid (T = C.filter (fun x => !hasA L C x)) := Lib.hid (by rw [hT, hC]; rfl)
  rw [← hC] at HHas HS hcl
  rw [← hT]
  clear h hW hr hx hi0 hz0 hz1 hz2 hC hT
  go_enter Tryz.func197, Tryz.ntmps197
  go_wp2_with fail
  refine HCl.out.mono ?_
  rintro e w1 ⟨v1, rfl, o1, b1⟩
  have HSo := Lib.hid (sort9_any o1 (by omega))
  have HO1 := Lib.hid o1
  have HB1 := Lib.hid b1
  clear o1 b1 HCl
  go_wp2_with fail
  refine HSo.out.mono ?_
  rintro e w2 ⟨rfl, o2, g2⟩
  have HCo := Lib.hid (comp9_any o2)
  rw [HS.out] at HCo
  have HO2 := Lib.hid o2
  have HB2 := Lib.hid (own_below9 HO1.out (Nat.le_refl _) HB1.out g2)
  clear o2 g2 HSo HO1 HB1
  go_wp2_with fail
  refine HCo.out.mono ?_
  rintro e w3 ⟨v3, rfl, o3, g3, -⟩
  have HB3 := Lib.hid (own_below9 HO2.out (Nat.le_refl _) HB2.out g3)
  obtain ⟨a3, c3, rfl, r3⟩ := o3.row
  have HR3 := Lib.hid r3
  have hsz := HB3.out.size
  obtain ⟨m, hm⟩ : ∃ m, m = C.length := ⟨_, rfl⟩
  rw [← hm] at HR3 HHas hcl ⊢
  have HM := Lib.hid hm
  have hmb := HR3.out.2.1
  clear o3 g3 r3 HO2 HB2 HCo HS hm
  go_wp2
  go_loopw [6, 8, 17] (fun v6 _ i wr => ∃ j : Nat, j ≤ m ∧ i = .int .i64 j ∧ OwnD wr w3.heap.size v6 ((C.take j).filter (fun x => !hasA L C x)).length ((C.take j).filter (fun x => !hasA L C x)) ∧ Below w3.heap.size w3 wr) (fun _ _ i _ => m - (ivl i).toNat)
  case atStart => exact ⟨0, by omega, rfl, OwnD.nil _ _, Below.refl _ _⟩
  case round =>
    obtain ⟨j, hj, rfl, ho, hb⟩ := hrel
    have HOwn := Lib.hid ho
    have HB := Lib.hid hb
    have HR := Lib.hid (row_keep HR3.out hb)
    have hsw : w3.heap.size ≤ wr.heap.size := hb.size
    clear ho hb
    by_cases hlt : j < m
    · obtain ⟨b, off, z, rfl, hz, cz⟩ := row_at HR.out hlt
      have hbl := World.block_lt_of_cell? _ _ cz
      have HH := Lib.hid (HHas.out wr z (some ⟨b, off, none⟩) c3 (bthen HB3.out HB.out) (List.mem_of_getElem? hz) HR.out)
      have j0 : (0 : Int) ≤ (j : Int) := by omega
      have j1 : (j : Int) < (m : Int) := by omega
      obtain ⟨hb, hhb⟩ : ∃ hb, hb = hasA L C z := ⟨_, rfl⟩
      have HSt : Hid ((C.take (j + 1)).filter (fun x => !hasA L C x) = (C.take j).filter (fun x => !hasA L C x) ++ (if hb then [] else [z])) := Lib.hid (by
        rw [List.take_add_one, hz, List.filter_append, hhb]
        cases q : hasA L C z <;> simp [q])
      have hpl : ((C.take j).filter (fun x => !hasA L C x)).length ≤ 1000 := by
        have q1 := List.length_filter_le (fun x => !hasA L C x) (C.take j)
        rw [List.length_take] at q1
        omega
      rw [← hhb] at HH
      clear hz hhb
      go_wp2_with fail
      refine HH.out.mono ?_
      rintro e w5 ⟨rfl, b5⟩
      replace HOwn := Lib.hid (HOwn.out.keep b5)
      replace HB := Lib.hid (bthen (w := w3) HB.out b5)
      have hsw5 : w3.heap.size ≤ w5.heap.size := HB.out.size
      clear b5 HH HR cz hbl
      cases hb with
      | true =>
        go_wp2
        go_roundw
        case rel => exact ⟨j + 1, by omega, by go_num, by rw [HSt.out]; simpa using HOwn.out, HB.out⟩
        case measure => simp [ivl] <;> omega
      | false =>
        obtain ⟨pre, hpre⟩ : ∃ pre, pre = (C.take j).filter (fun x => !hasA L C x) := ⟨_, rfl⟩
        rw [← hpre] at HOwn HSt hpl
        obtain ⟨k, hk⟩ : ∃ k, k = pre.length := ⟨_, rfl⟩
        rw [← hk] at HOwn hpl
        have HK := Lib.hid hk
        clear hpre hk
        go_wp2_with (at_builtin; refine wpList_append_own _ rfl (.tmp 26) (.tmp 28) 35 rfl w3.heap.size 81 i0 (.int .i64 0) 1 8 Tryz.underlying35 HI.out.1 HI.out.2.1 HI.out.2.2.1 HI.out.2.2.2 rfl (by decide) _ _ _ rfl (HOwn.out.alloc _) ⟨w5.heap.size, 0, none⟩ 1 1 [.int .i64 z] rfl rfl (cell_one_new _ _ _) (by intro u hu; simp at hu; subst hu; rfl) (by unfold maxLen; omega) (by omega) (by simp; omega) ?_)
        intro v' w6 hown' hgrow _
        have HOwn' := Lib.hid hown'
        have HB6 := Lib.hid (grownD_below HOwn.out (Nat.le_refl _) HB.out hsw5 hgrow)
        clear hown' hgrow
        go_wp2
        go_roundw
        case rel =>
          refine ⟨j + 1, by omega, by go_num, ?_, HB6.out⟩
          rw [HSt.out]
          show OwnD _ _ _ (pre ++ [z]).length (pre ++ [z])
          rw [List.length_append, ← HK.out]
          unfold OwnD
          rw [List.map_append]
          exact HOwn'.out
        case measure => simp [ivl] <;> omega
    · obtain rfl : j = m := by omega
      have e0 : C.take j = C := List.take_of_length_le (by rw [HM.out]; exact Nat.le_refl _)
      rw [e0, ← HT.out] at HOwn
      have HE := Lib.hid (And.intro (HOwn.out.base hsz) (bthen HB3.out HB.out))
      have j1 : ¬ (j : Int) < (j : Int) := by omega
      clear e0
      go_wp2
      go_ret
      exact ⟨_, rfl, HE.out⟩
end
end Go.Proofs.YthhfcedhbfandaaGreat
