/-
  6 texts in one file, each with its own heading.
-/
import Derived.Test.YtkondkajpmafkaaGreatMT32
import Derived.Test.YtkondkajpmafkaaGreatMT29
import Derived.Deep.RegionHeld3
/-
  slices.Insert of one name, wherever; the landed forest in memory, and what stays where one family of it changes.
-/
namespace Go.Proofs.YtkondkajpmafkaaGreat
open Go.RowKit

theorem take_splice2 {X : List Value} {xs : List Int} {n i : Nat} {c : Int} (ht : X.take i = (xs.take i).map (Value.int .i64)) (hx : xs.length = n) (hi : i ≤ n) :
    (splice (splice X i [.int .i64 c]) (i + 1) ((xs.drop i).map (Value.int .i64))).take (n + 1) = (xs.take i ++ c :: xs.drop i).map (Value.int .i64) := by
  have hd : ((xs.drop i).map (Value.int .i64)).length = n - i := by rw [List.length_map, List.length_drop]; omega
  have h1 : (splice X i [.int .i64 c]).take (i + 1) = (xs.take i).map (Value.int .i64) ++ [.int .i64 c] := by
    unfold splice
    rw [ht, List.take_append_of_le_length (by simp; omega), List.take_of_length_le (by simp; omega)]
  rw [show splice (splice X i [.int .i64 c]) (i + 1) ((xs.drop i).map (Value.int .i64)) = (splice X i [.int .i64 c]).take (i + 1) ++ (xs.drop i).map (Value.int .i64) ++ (splice X i [.int .i64 c]).drop (i + 1 + ((xs.drop i).map (Value.int .i64)).length) from rfl, h1]
  rw [List.take_append_of_le_length (by rw [List.length_append, List.length_append, List.length_map, List.length_take, hd]; simp; omega), List.take_of_length_le (by rw [List.length_append, List.length_append, List.length_map, List.length_take, hd]; simp; omega)]
  simp
theorem below_drew9 (w : World) : Below w.heap.size w w.drew := ⟨rfl, rfl, rfl, Nat.le_refl _, fun _ _ => rfl⟩
theorem ins9_any {w : World} {base n i vb : Nat} {v : Value} {xs : List Int} {c : Int} (h : OwnD w base v n xs) (hbs : base ≤ w.heap.size) (hv : Blk w vb 31 #[.int .i64 c]) (hvb : v.ownBlock ≠ some vb) (hi : i ≤ n) (hn : n ≤ 100000) :
    Calls Tryz.prog 132 #[v, .int .i64 i, .slice (some ⟨vb, 0, none⟩) 1 1] w fun e w' =>
      ∃ b cap, e = .returned (.slice (some ⟨b, 0, none⟩) (n + 1) cap) ∧ OwnD w' base (.slice (some ⟨b, 0, none⟩) (n + 1) cap) (n + 1) (xs.take i ++ c :: xs.drop i) ∧ w.grownBy w' v.ownBlock ∧ (v.ownBlock = some b ∨ w.heap.size ≤ b) := by
  have hlen := h.len
  by_cases hin : i = n
  · subst hin
    refine (ins9_end h hbs hv hn).mono ?_
    rintro e w' ⟨v', rfl, k1, k2, k3⟩
    rw [List.take_of_length_le (by omega), List.drop_of_length_le (by omega)]
    rcases k1.2 with ⟨_, q⟩ | ⟨g, cap, cur, rfl, _⟩
    · omega
    · refine ⟨g, cap, rfl, k1, k2, ?_⟩
      rcases k3 with q | q
      · exact Or.inl q.symm
      · have e2 : g = w.heap.size := by injection q
        exact Or.inr (by omega)
  · rcases h.2 with ⟨_, q⟩ | ⟨g, cap, cur, rfl, _⟩
    · omega
    · obtain ⟨X, hbk, hXl, hXt, hnc, hm, hbg⟩ := h.cells
      have hne : vb ≠ g := fun e => hvb (by rw [e]; rfl)
      have hdl : ((xs.drop i).map (Value.int .i64)).length = n - i := by rw [List.length_map, List.length_drop, hlen]
      by_cases hroom : n + 1 ≤ cap
      · refine (ins9_shift h hv hne (by omega) hroom).mono ?_
        rintro e w' ⟨rfl, rfl⟩
        have b1 : Blk (w.drew.setCells g (i + 1) ((xs.drop i).map (Value.int .i64))) g 31 (splice X (i + 1) ((xs.drop i).map (Value.int .i64))).toArray := blk_setCells _ (show Blk w.drew g _ _ from hbk) (by rw [hdl]; omega)
        have l1 := splice_len (X := X) (o := i + 1) (vs := (xs.drop i).map (Value.int .i64)) (by rw [hdl]; omega)
        have b2 := blk_setCells [Value.int .i64 c] (o := i) b1 (by rw [l1]; simp; omega)
        refine ⟨g, cap, rfl, OwnD.of_cells b2 ?_ (take_splice hXt (by omega) hlen hi) (by omega) hm hbg, ?_, Or.inl rfl⟩
        · rw [splice_len (by rw [l1]; simp; omega), l1, hXl]
        · exact grown_trans (grown_trans (below_grown (below_drew9 w) _) (grown_sets _ _ _ _)) (grown_sets _ _ _ _)
      · refine (ins9_grow h hv (by omega) (by omega) hn).mono ?_
        rintro e w' ⟨G, ROW, rfl, hG1, hG2, hR, hRt, rfl⟩
        have b0 : Blk (w.alloc (.cells ROW.toArray 31)).drew w.heap.size 31 ROW.toArray := Blk.new w _ _
        have b1 := blk_setCells [Value.int .i64 c] (o := i) b0 (by simp; omega)
        have l1 := splice_len (X := ROW) (o := i) (vs := [Value.int .i64 c]) (by simp; omega)
        have b2 := blk_setCells ((xs.drop i).map (Value.int .i64)) (o := i + 1) (show Blk ((w.alloc (.cells ROW.toArray 31)).drew.setCells w.heap.size i [.int .i64 c]).drew _ _ _ from b1) (by rw [l1, hdl]; omega)
        refine ⟨w.heap.size, G, rfl, OwnD.of_cells b2 ?_ (take_splice2 hRt hlen hi) hG1 hG2 hbs, ?_, Or.inr (Nat.le_refl _)⟩
        · rw [splice_len (by rw [l1, hdl]; omega), l1, hR]
        · have q0 : Below w.heap.size w (w.alloc (.cells ROW.toArray 31)).drew := bthen (alloc_below w _) (below_drew9 _)
          have q1 := below_setCells [Value.int .i64 c] (g := w.heap.size) (o := i) q0 (Nat.le_refl _)
          have q2 : Below w.heap.size w ((w.alloc (.cells ROW.toArray 31)).drew.setCells w.heap.size i [.int .i64 c]).drew := bthen q1 (below_drew9 _)
          exact below_grown (below_setCells _ q2 (Nat.le_refl _)) _

def chO (L : FT) (bl cp : Int → Nat) (x : Int) : Option (Nat × Nat × Nat) := if chF L x = [] then none else some (bl x, (chF L x).length, cp x)
structure LF (w : World) (g : Nat) (L : FT) (gp gc : Nat) (bl cp : Int → Nat) : Prop where
  blk : Blk w g 127 #[.map (some gp), .map (some gc)]
  par : MF pK w gp (parO L)
  chd : MF cK w gc (chO L bl cp)
  row : ∀ x, chF L x ≠ [] → OwnD w 0 (.slice (some ⟨bl x, 0, none⟩) (chF L x).length (cp x)) (chF L x).length (chF L x)
  inj : ∀ x y, chF L x ≠ [] → chF L y ≠ [] → bl x = bl y → x = y
  ne1 : g ≠ gp
  ne2 : g ≠ gc
  ne3 : gp ≠ gc
  off : ∀ x, chF L x ≠ [] → bl x ≠ g ∧ bl x ≠ gp ∧ bl x ≠ gc
  rng : ∀ p ∈ L, Rg p.1 ∧ Rg p.2
def lfoot9 (L : FT) (g gp gc : Nat) (bl : Int → Nat) (b : Nat) : Prop := b = g ∨ b = gp ∨ b = gc ∨ ∃ x, chF L x ≠ [] ∧ b = bl x
def LFB (w : World) (g : Nat) (F : Nat → Prop) (L : FT) : Prop := ∃ gp gc bl cp, LF w g L gp gc bl cp ∧ ∀ b, F b ↔ lfoot9 L g gp gc bl b
section
variable {w w' : World} {g gp gc : Nat} {L L' : FT} {bl cp bl' cp' : Int → Nat} {F : Nat → Prop}
theorem LF.inb (h : LF w g L gp gc bl cp) : ∀ b, lfoot9 L g gp gc bl b → b < w.heap.size := by
  rintro b (rfl | rfl | rfl | ⟨x, hx, rfl⟩)
  · exact h.blk.lt
  · exact h.par.lt
  · exact h.chd.lt
  · exact ((h.row x hx).lt _ rfl).2
theorem LF.same (h : LF w g L gp gc bl cp) (he : ∀ b, lfoot9 L g gp gc bl b → w'.heap[b]? = w.heap[b]?) : LF w' g L gp gc bl cp :=
  ⟨h.blk.same (he g (Or.inl rfl)), h.par.same (he gp (Or.inr (Or.inl rfl))), h.chd.same (he gc (Or.inr (Or.inr (Or.inl rfl)))), fun x hx => (h.row x hx).same (fun b e => he b (Or.inr (Or.inr (Or.inr ⟨x, hx, by injection e with e; exact e.symm⟩)))), h.inj, h.ne1, h.ne2, h.ne3, h.off, h.rng⟩
theorem LF.keep (h : LF w g L gp gc bl cp) (hb : Below w.heap.size w w') : LF w' g L gp gc bl cp := h.same (fun b hf => hb.block b (h.inb b hf))
theorem LF.c0 (h : LF w g L gp gc bl cp) : w.cell? ⟨g, 0, none⟩ = some (.map (some gp)) := h.blk.cell 0
theorem LF.c1 (h : LF w g L gp gc bl cp) : w.cell? ⟨g, 1, none⟩ = some (.map (some gc)) := h.blk.cell 1
theorem LFB.keep_ (h : LFB w g F L) (he : ∀ b, F b → w'.heap[b]? = w.heap[b]?) : LFB w' g F L := by
  obtain ⟨gp, gc, bl, cp, h1, h2⟩ := h
  exact ⟨gp, gc, bl, cp, h1.same (fun b hb => he b ((h2 b).2 hb)), h2⟩
theorem LFB.inb (h : LFB w g F L) : ∀ b, F b → b < w.heap.size := by
  obtain ⟨gp, gc, bl, cp, h1, h2⟩ := h
  exact fun b hb => h1.inb b ((h2 b).1 hb)
theorem LFB.keep (h : LFB w g F L) (hb : Below w.heap.size w w') : LFB w' g F L := h.keep_ (fun b hf => hb.block b (h.inb b hf))
theorem LF.fam (h : LF w g L gp gc bl cp) (x : Int) : OwnD w 0 (cV (chO L bl cp x)) (chF L x).length (chF L x) := by
  unfold chO
  by_cases c : chF L x = []
  · rw [if_pos c, c]
    exact OwnD.nil _ _
  · rw [if_neg c]
    exact h.row x c
theorem LF.rowOf (h : LF w g L gp gc bl cp) (x : Int) : ∃ a cap, cV (chO L bl cp x) = .slice a (chF L x).length cap ∧ Row w a (chF L x).length (chF L x) := (h.fam x).row
theorem LF.step (h : LF w g L gp gc bl cp) (hF : ∀ b, F b ↔ lfoot9 L g gp gc bl b) {p : Int}
    (hfr : Fr w w' (fun b => b = gp ∨ b = gc ∨ (chF L p ≠ [] ∧ b = bl p)))
    (hpar : MF pK w' gp (parO L')) (hchd : MF cK w' gc (chO L' bl' cp'))
    (hrow : chF L' p ≠ [] → OwnD w' 0 (.slice (some ⟨bl' p, 0, none⟩) (chF L' p).length (cp' p)) (chF L' p).length (chF L' p))
    (hbl : chF L' p ≠ [] → (chF L p ≠ [] ∧ bl' p = bl p) ∨ w.heap.size ≤ bl' p)
    (hoth : ∀ x, x ≠ p → chF L' x = chF L x ∧ bl' x = bl x ∧ cp' x = cp x)
    (hrng : ∀ q ∈ L', Rg q.1 ∧ Rg q.2) : LF w' g L' gp gc bl' cp' ∧ ChF LFB w w' g F L' := by
  have hst : ∀ b, b < w.heap.size → b ≠ gp → b ≠ gc → (chF L p ≠ [] → b ≠ bl p) → w'.heap[b]? = w.heap[b]? := fun b hb h1 h2 h3 => hfr.2.2.2.2 b hb (fun c => by
    rcases c with c | c | ⟨c, d⟩
    · exact h1 c
    · exact h2 c
    · exact h3 c d)
  have hg := h.blk.lt
  have hgp := h.par.lt
  have hgc := h.chd.lt
  have hin : ∀ x, chF L x ≠ [] → bl x < w.heap.size := fun x hx => ((h.row x hx).lt _ rfl).2
  have hLF : LF w' g L' gp gc bl' cp' := by
    refine ⟨h.blk.same (hst g hg h.ne1 h.ne2 (fun c e => (h.off p c).1 e.symm)), hpar, hchd, fun x hx => ?_, fun x y hx hy e => ?_, h.ne1, h.ne2, h.ne3, fun x hx => ?_, hrng⟩
    · by_cases c : x = p
      · rw [c] at hx ⊢; exact hrow hx
      · obtain ⟨e1, e2, e3⟩ := hoth x c
        rw [e1] at hx ⊢
        rw [e2, e3]
        refine (h.row x hx).same (fun b e => ?_)
        injection e with e
        have e : bl x = b := e
        subst e
        exact hst _ (hin x hx) (h.off x hx).2.1 (h.off x hx).2.2 (fun d e => c (h.inj x p hx d e))
    · by_cases c : x = p
      · by_cases d : y = p
        · rw [c, d]
        · exfalso
          obtain ⟨e1, e2, _⟩ := hoth y d
          rw [e1] at hy
          rw [e2, c] at e
          rw [c] at hx
          rcases hbl hx with ⟨q, q2⟩ | q
          · rw [q2] at e
            exact d (h.inj p y q hy e).symm
          · have := hin y hy; omega
      · obtain ⟨e1, e2, _⟩ := hoth x c
        rw [e1] at hx
        by_cases d : y = p
        · exfalso
          rw [e2, d] at e
          rw [d] at hy
          rcases hbl hy with ⟨q, q2⟩ | q
          · rw [q2] at e
            exact c (h.inj x p hx q e)
          · have := hin x hx; omega
        · obtain ⟨f1, f2, _⟩ := hoth y d
          rw [f1] at hy
          rw [e2, f2] at e
          exact h.inj x y hx hy e
    · by_cases c : x = p
      · rw [c] at hx ⊢
        rcases hbl hx with ⟨q, q2⟩ | q
        · rw [q2]; exact h.off p q
        · exact ⟨by omega, by omega, by omega⟩
      · obtain ⟨e1, e2, _⟩ := hoth x c
        rw [e1] at hx
        rw [e2]
        exact h.off x hx
  refine ⟨hLF, lfoot9 L' g gp gc bl', ⟨gp, gc, bl', cp', hLF, fun _ => Iff.rfl⟩, ?_, ?_⟩
  · exact Fr.of hfr (fun b c => (hF b).2 (by
      rcases c with c | c | ⟨c, d⟩
      · exact Or.inr (Or.inl c)
      · exact Or.inr (Or.inr (Or.inl c))
      · exact Or.inr (Or.inr (Or.inr ⟨p, c, d⟩))))
  · rintro b (e | e | e | ⟨x, hx, e⟩)
    · exact Or.inl ((hF b).2 (Or.inl e))
    · exact Or.inl ((hF b).2 (Or.inr (Or.inl e)))
    · exact Or.inl ((hF b).2 (Or.inr (Or.inr (Or.inl e))))
    · by_cases c : x = p
      · rw [c] at hx e
        rcases hbl hx with ⟨q, q2⟩ | q
        · exact Or.inl ((hF b).2 (Or.inr (Or.inr (Or.inr ⟨p, q, by rw [e, q2]⟩))))
        · exact Or.inr (by omega)
      · obtain ⟨e1, e2, _⟩ := hoth x c
        rw [e1] at hx
        exact Or.inl ((hF b).2 (Or.inr (Or.inr (Or.inr ⟨x, hx, by rw [e, e2]⟩))))
theorem fr_none (w : World) (M : Nat → Prop) : Fr w w M := ⟨rfl, rfl, rfl, Nat.le_refl _, fun _ _ _ => rfl⟩
theorem fr_grown {w1 w2 : World} {M : Nat → Prop} {r : Option Nat} (h : Fr w w1 M) (hg : w1.grownBy w2 r) (hr : ∀ b, r = some b → M b ∨ w.heap.size ≤ b) : Fr w w2 M :=
  ⟨hg.os.trans h.1, hg.tape.trans h.2.1, hg.output.trans h.2.2.1, Nat.le_trans h.2.2.2.1 hg.size, fun b hb hn => (hg.block b (Nat.lt_of_lt_of_le hb h.2.2.2.1) (fun e => (hr b e.symm).elim hn (fun q => by omega))).trans (h.2.2.2.2 b hb hn)⟩
theorem fr_below {w1 w2 : World} {M : Nat → Prop} (h : Fr w w1 M) (hb : Below w1.heap.size w1 w2) : Fr w w2 M := Fr.behind h hb
end

section
variable {FB : World → Nat → (Nat → Prop) → FT → Prop}
variable {w0 w w' : World} {gp gr : Nat} {Fp Fq : Nat → Prop} {Lp Lq Lp' Lq' : FT}
end
def c9 (x : A9) : List Value := [.int .u8 x.k, .slice x.a x.n x.cap]
section
variable {FB : World → Nat → (Nat → Prop) → FT → Prop}
theorem row_lit (w : World) (t : TypeId) (xs : List Int) (h : xs.length ≤ 1000) : Row (w.alloc (.cells (xs.map (Value.int .i64)).toArray t)) (some ⟨w.heap.size, 0, none⟩) xs.length xs := by
  refine ⟨rfl, by omega, Or.inr ⟨w.heap.size, 0, rfl, fun i hi => ?_⟩⟩
  have := (Blk.new w t (xs.map (Value.int .i64)).toArray).cell (0 + i)
  rw [this]
  simp [hi, List.getD]
def l93 : FT := [(5, 3), (4, 3), (7, 5)]
theorem u91 : undL l93 [7, 3] = [3, 4, 5, 7] ∧ abv l93 7 = [5, 3] := by decide +kernel
end
section
variable {w : World} {g gp gc : Nat} {L : FT} {bl cp : Int → Nat}
theorem par_rng {L : FT} (h : ∀ p ∈ L, Rg p.1 ∧ Rg p.2) {z y : Int} (hp : parO L z = some y) : Rg z ∧ Rg y := h _ (par_mem hp)
theorem ch_rng {L : FT} (hn : (L.map Prod.fst).Nodup) (h : ∀ p ∈ L, Rg p.1 ∧ Rg p.2) {x z : Int} (hz : z ∈ chF L x) : Rg z := (par_rng h ((mem_chF hn).1 hz)).1
theorem abv_has {L : FT} (h : WF L) {c p : Int} (hc : c ∈ abv L p) : chF L c ≠ [] := fun e => by
  have h1 : p ∈ beh L c := (mem_beh h).2 (Or.inr hc)
  rw [beh_eq h, e] at h1
  rw [List.flatMap_nil, List.mem_singleton] at h1
  rw [h1] at hc
  exact no_ring h c hc
set_option maxHeartbeats 2000000 in
set_option maxRecDepth 100000 in
theorem lparent_any (h : LF w g L gp gc bl cp) {x : Int} (hx : Rg x) :
    Calls Tryz.prog 79 #[.pointer (some ⟨g, 0, none⟩), .int .i64 x] w fun e w' => e = .returned (.tuple #[.int .i64 (parV (parO L x)), .bool (parO L x).isSome]) ∧ w = w' := by
  have c0 := h.c0
  have hg := h.blk.lt
  have hl : (Instr.lookup 124 (.map (some gp)) (.int .i64 x) true).run Tryz.prog w = .ok (.tuple #[.int .i64 (parV (parO L x)), .bool (parO L x).isSome]) w := h.par.look hx
  obtain ⟨pv, hpv⟩ : ∃ pv, pv = parV (parO L x) := ⟨_, rfl⟩
  obtain ⟨pb, hpb⟩ : ∃ pb, pb = (parO L x).isSome := ⟨_, rfl⟩
  rw [← hpv, ← hpb] at hl ⊢
  clear h hpv hpb
  go_enter Tryz.func79, Tryz.ntmps79
  go_wp2
  go_ret2
  exact ⟨rfl, rfl⟩
theorem find9_below {w : World} {a : Option Addr} {n cap : Nat} {xs : List Int} (h : Row w a n xs) (hn : n ≤ 100000) (hs : xs.Pairwise (· ≤ ·)) (x : Int) :
    Calls Tryz.prog 130 #[.slice a n cap, .int .i64 x] w fun e w' => e = .returned (.tuple #[.int .i64 (cntI xs x : Nat), .bool (decide (x ∈ xs))]) ∧ Below w.heap.size w w' := by
  refine (find9_any h hn hs x).mono ?_
  rintro e w' ⟨rfl, q, rfl⟩
  exact ⟨rfl, Go.below_drewN (Below.refl _ _) q⟩
def hasA (L : FT) (ns : List Int) (x : Int) : Bool := (abv L x).any (fun a => decide (a ∈ ns))
theorem hasA_none {L : FT} (h : WF L) {ns : List Int} {x : Int} (hp : parO L x = none) : hasA L ns x = false := by
  unfold hasA
  rw [abv_none h hp]
  rfl
theorem hasA_some {L : FT} (h : WF L) {ns : List Int} {x y : Int} (hp : parO L x = some y) : hasA L ns x = (decide (y ∈ ns) || hasA L ns y) := by
  unfold hasA
  rw [abv_some h hp]
  rfl
set_option maxHeartbeats 2000000 in
set_option maxRecDepth 100000 in
theorem lhas_any (h : LF w g L gp gc bl cp) (hW : WF L) {x : Int} (hx : Rg x) {a : Option Addr} {n cap : Nat} {ns : List Int} (hr : Row w a n ns) (hn : n ≤ 100000) (hs : ns.Pairwise (· ≤ ·)) :
    Calls Tryz.prog 129 #[.pointer (some ⟨g, 0, none⟩), .int .i64 x, .slice a n cap] w fun e w' => e = .returned (.bool (hasA L ns x)) ∧ Below w.heap.size w w' := by
  have HLk : Hid (∀ u z, Below w.heap.size w u → Rg z → (Instr.lookup 124 (.map (some gp)) (.int .i64 z) true).run Tryz.prog u = .ok (.tuple #[.int .i64 (parV (parO L z)), .bool (parO L z).isSome]) u ∧ u.cell? ⟨g, 0, none⟩ = some (.map (some gp)) ∧ g < u.heap.size) := Lib.hid (fun u z q hz => ⟨(h.keep q).par.look hz, (h.keep q).c0, (h.keep q).blk.lt⟩)
  have HFi : Hid (∀ u y, Below w.heap.size w u → Calls Tryz.prog 130 #[.slice a n cap, .int .i64 y] u fun e w' => e = .returned (.tuple #[.int .i64 (cntI ns y : Nat), .bool (decide (y ∈ ns))]) ∧ Below u.heap.size u w') := Lib.hid (fun u y q => find9_below (row_keep hr q) hn hs y)
  have HRg : Hid (∀ z y, parO L z = some y → Rg y) := Lib.hid (fun z y e => (par_rng h.rng e).2)
  have HW := Lib.hid hW
  obtain ⟨hl, c0, hg⟩ := HLk.out w x (Below.refl _ _) hx
  clear h hW hr hs
  go_enter Tryz.func129, Tryz.ntmps129
  go_wp2
  go_loopw [7, 8, 9, 10] (fun v7 v8 _ _ wr => ∃ z : Int, v7 = .int .i64 (parV (parO L z)) ∧ v8 = .bool (parO L z).isSome ∧ hasA L ns x = hasA L ns z ∧ Below w.heap.size w wr) (fun v7 v8 _ _ _ => match v8 with | .bool true => abM L v7 | _ => 0)
  case atStart => exact ⟨x, rfl, rfl, rfl, Below.refl _ _⟩
  case round =>
    clear hl c0 hg hx
    obtain ⟨z, rfl, rfl, he, hb⟩ := hrel
    have HE := Lib.hid he
    have HB := Lib.hid hb
    clear he hb
    cases hpz : parO L z with
    | none =>
      have HR := Lib.hid (HE.out.trans (hasA_none HW.out hpz))
      clear hpz
      go_wp2
      go_ret
      exact ⟨by rw [HR.out]; rfl, HB.out⟩
    | some y =>
      have HR := Lib.hid (HE.out.trans (hasA_some HW.out hpz))
      have HY := Lib.hid (HRg.out z y hpz)
      clear hpz
      have e1 : parV (some y) = y := rfl
      rw [e1]
      have HF := Lib.hid (HFi.out _ y HB.out)
      obtain ⟨fb, hfb⟩ : ∃ fb, fb = decide (y ∈ ns) := ⟨_, rfl⟩
      obtain ⟨fc, hfc⟩ : ∃ fc, fc = cntI ns y := ⟨_, rfl⟩
      rw [← hfb, ← hfc] at HF
      rw [← hfb] at HR
      clear hfb hfc
      go_wp2_with fail
      refine HF.out.mono ?_
      rintro e w1 ⟨rfl, b1⟩
      have HB1 := Lib.hid (bthen HB.out b1)
      clear b1 HF
      cases fb with
      | true =>
        go_wp2
        go_ret
        exact ⟨by rw [HR.out]; rfl, HB1.out⟩
      | false =>
        obtain ⟨hl, c0, hg⟩ := HLk.out w1 y HB1.out HY.out
        go_wp2
        go_roundw
        case rel => exact ⟨y, rfl, rfl, by rw [HR.out]; rfl, HB1.out⟩
        case measure =>
          show _ < abM L (.int .i64 y)
          have hlt : ∀ o, parO L y = o → (match (Value.bool o.isSome) with | .bool true => abM L (.int .i64 (parV o)) | _ => 0) < abM L (.int .i64 y) := fun o ho => by
            cases o with
            | none => show 0 < _; unfold abM; omega
            | some y2 =>
              show abM L (.int .i64 y2) < _
              unfold abM
              show (abv L y2).length + 1 < (abv L y).length + 1
              rw [abv_some HW.out ho, List.length_cons]
              omega
          exact hlt _ rfl

theorem hasA_one {L : FT} (c x : Int) : hasA L [c] x = decide (c ∈ abv L x) := by
  unfold hasA
  rw [Bool.eq_iff_iff, List.any_eq_true, decide_eq_true_eq]
  constructor
  · rintro ⟨a, ha, e⟩
    have : a = c := by simpa using e
    rw [← this]
    exact ha
  · intro hc
    exact ⟨c, hc, by simp⟩
set_option maxHeartbeats 2000000 in
set_option maxRecDepth 100000 in
theorem lisAbove_any (h : LF w g L gp gc bl cp) (hW : WF L) {c p : Int} (hc : Rg c) (hp : Rg p) :
    Calls Tryz.prog 94 #[.pointer (some ⟨g, 0, none⟩), .int .i64 c, .int .i64 p] w fun e w' => e = .returned (.bool (decide (c ∈ abv L p))) ∧ Below w.heap.size w w' := by
  have c1 := h.c1
  have hg := h.blk.lt
  obtain ⟨a, cap, hv, hr⟩ := h.rowOf c
  have hl : (Instr.lookup 125 (.map (some gc)) (.int .i64 c) false).run Tryz.prog w = .ok (cV (chO L bl cp c)) w := h.chd.get hc
  rw [hv] at hl
  have HH : Hid (Calls Tryz.prog 129 #[.pointer (some ⟨g, 0, none⟩), .int .i64 p, .slice (some ⟨w.heap.size, 0, none⟩) 1 1] (w.alloc (.cells #[.int .i64 c] 31)) fun e w' => e = .returned (.bool (decide (c ∈ abv L p))) ∧ Below w.heap.size w w') := Lib.hid (by
    have hal : Below w.heap.size w (w.alloc (.cells #[.int .i64 c] 31)) := alloc_below _ _
    have := lhas_any (cap := 1) (h.keep hal) hW hp (row_lit w 31 [c] (by simp)) (by simp) (by simp)
    rw [hasA_one] at this
    exact this.mono fun e w' q => ⟨q.1, bthen hal q.2⟩)
  have HNo : Hid ((chF L c).length = 0 → decide (c ∈ abv L p) = false) := Lib.hid (fun e => decide_eq_false (fun k => abv_has hW k (List.eq_nil_of_length_eq_zero e)))
  obtain ⟨n, hnn⟩ : ∃ n, n = (chF L c).length := ⟨_, rfl⟩
  obtain ⟨rb, hrb⟩ : ∃ rb, rb = decide (c ∈ abv L p) := ⟨_, rfl⟩
  rw [← hnn] at hl HNo
  rw [← hrb] at HH HNo ⊢
  clear h hv hr hnn hrb hW
  by_cases hn : n = 0
  · subst hn
    obtain rfl := HNo.out rfl
    go_enter Tryz.func94, Tryz.ntmps94
    go_wp2
    go_ret
    exact ⟨rfl, Below.refl _ _⟩
  · have q : (0 : Int) < (n : Int) := by omega
    go_enter Tryz.func94, Tryz.ntmps94
    go_wp2_with fail
    refine HH.out.mono ?_
    rintro e w1 ⟨rfl, b1⟩
    have HB := Lib.hid b1
    clear b1
    go_wp2
    go_ret
    exact ⟨rfl, HB.out⟩
end
section
variable {w w1 w2 w3 w4 : World} {g gp gc : Nat} {L : FT} {bl cp : Int → Nat} {F : Nat → Prop} {c p : Int}
theorem grown_at {a b : World} {k k' : Nat} (h : a.grownBy b (some k)) (hk : k' < a.heap.size) (hne : k' ≠ k) : b.heap[k']? = a.heap[k']? := h.block k' hk (fun e => hne (by injection e))
set_option maxRecDepth 100000 in
theorem LF.cutEnd (h : LF w g L gp gc bl cp) (hF : ∀ b, F b ↔ lfoot9 L g gp gc bl b) (hW : WF L) (hp : parO L c = some p) (hm1 : MF pK w1 gp (upm (parO L) c none)) (hg1 : w.grownBy w1 (some gp)) (hb2 : Below w1.heap.size w1 w2)
    (hr3 : OwnD w3 0 (.slice (some ⟨bl p, 0, none⟩) ((chF L p).length - 1) (cp p)) ((chF L p).length - 1) (cutI (chF L p) c)) (hg3 : w2.grownBy w3 (some (bl p)))
    (hm4 : MF cK w4 gc (upm (chO L bl cp) p (if cutI (chF L p) c = [] then none else some (bl p, (chF L p).length - 1, cp p)))) (hg4 : w3.grownBy w4 (some gc)) : ChF LFB w w4 g F (freeF L c) := by
  have hm : c ∈ chF L p := (mem_chF hW.1).2 hp
  have hne : chF L p ≠ [] := fun e => by rw [e] at hm; cases hm
  have hcl := cutI_len (chF_up hW.1 p) hm
  have hs := ch_free_self hW.1 hp
  have ho := h.off p hne
  have hgp1 := hm1.lt
  have hgp2 : gp < w2.heap.size := Nat.lt_of_lt_of_le hgp1 hb2.size
  have hgp3 : gp < w3.heap.size := Nat.lt_of_lt_of_le hgp2 hg3.size
  have hbl3 : bl p < w3.heap.size := (hr3.lt _ rfl).2
  refine (h.step (L' := freeF L c) (bl' := bl) (cp' := cp) (p := p) hF (fr_grown (fr_grown (fr_below (fr_grown (fr_none w _) hg1 (fun b e => Or.inl (Or.inl (by injection e with e; exact e.symm)))) hb2) hg3 (fun b e => Or.inl (Or.inr (Or.inr ⟨hne, by injection e with e; exact e.symm⟩)))) hg4 (fun b e => Or.inl (Or.inr (Or.inl (by injection e with e; exact e.symm))))) ?_ ?_ ?_ (fun _ => Or.inl ⟨hne, rfl⟩) (fun x hx => ⟨ch_free_other hW.1 hp hx, rfl, rfl⟩) (free_rng h.rng c)).2
  · refine MF.eq (m := upm (parO L) c none) (hm1.same ?_) (fun x _ => by rw [par_free]; rfl)
    exact (grown_at hg4 hgp3 h.ne3).trans ((grown_at hg3 hgp2 (fun e => ho.2.1 e.symm)).trans (hb2.block gp hgp1))
  · refine MF.eq hm4 (fun x _ => ?_)
    unfold upm
    by_cases q : x = p
    · rw [if_pos q, q]
      unfold chO
      rw [hs, hcl]
    · rw [if_neg q]
      unfold chO
      rw [ch_free_other hW.1 hp q]
  · intro _
    rw [hs, hcl]
    exact hr3.same (fun b e => grown_at hg4 (by injection e with e; rw [← e]; exact hbl3) (by injection e with e; rw [← e]; exact ho.2.2))
set_option maxHeartbeats 4000000 in
set_option maxRecDepth 100000 in
theorem lloosen_any (h0 : LFB w g F L) (hW : WF L) (hL : L.length ≤ 1000) (hc : Rg c) :
    Calls Tryz.prog 95 #[.pointer (some ⟨g, 0, none⟩), .int .i64 c] w fun e w' => e = .returned (.bool (parO L c).isSome) ∧ ChF LFB w w' g F (freeF L c) := by
  have h00 := h0
  obtain ⟨gp, gc, bl, cp, h, hF⟩ := h0
  have c0 := h.c0
  have hg := h.blk.lt
  have hl : (Instr.lookup 124 (.map (some gp)) (.int .i64 c) true).run Tryz.prog w = .ok (.tuple #[.int .i64 (parV (parO L c)), .bool (parO L c).isSome]) w := h.par.look hc
  cases hp : parO L c with
  | none =>
    rw [hp] at hl
    have HE : Hid (ChF LFB w w g F (freeF L c)) := Lib.hid (by
      rw [free_none hp]
      exact ⟨F, h00, fr_none w F, fun _ q => Or.inl q⟩)
    clear h00 h hF hp hW
    go_enter Tryz.func95, Tryz.ntmps95
    go_wp2
    go_ret
    exact ⟨rfl, HE.out⟩
  | some p =>
    rw [hp] at hl
    replace hl : (Instr.lookup 124 (.map (some gp)) (.int .i64 c) true).run Tryz.prog w = .ok (.tuple #[.int .i64 p, .bool true]) w := hl
    have hpr := (par_rng h.rng hp).2
    have hm : c ∈ chF L p := (mem_chF hW.1).2 hp
    have hne : chF L p ≠ [] := fun e => by rw [e] at hm; cases hm
    have ho := h.off p hne
    obtain ⟨w1, hd1, hm1, hg1⟩ := h.par.del hc
    replace hd1 : ∀ ty, (Builtin.delete_ #[124, 31] ty #[.map (some gp), .int .i64 c]).run Tryz.prog w = .ok (.tuple #[]) w1 := hd1
    have k1 : Blk w1 g 127 #[.map (some gp), .map (some gc)] := h.blk.same (grown_at hg1 hg h.ne1)
    have d1 : MF cK w1 gc (chO L bl cp) := h.chd.same (grown_at hg1 h.chd.lt (fun e => h.ne3 e.symm))
    have r1 : OwnD w1 0 (.slice (some ⟨bl p, 0, none⟩) (chF L p).length (cp p)) (chF L p).length (chF L p) := (h.row p hne).same (fun b e => grown_at hg1 (by injection e with e; rw [← e]; exact ((h.row p hne).lt _ rfl).2) (by injection e with e; rw [← e]; exact ho.2.1))
    have hl1 : (Instr.lookup 125 (.map (some gc)) (.int .i64 p) false).run Tryz.prog w1 = .ok (.slice (some ⟨bl p, 0, none⟩) (chF L p).length (cp p)) w1 := by
      have := d1.get hpr
      unfold chO at this
      rw [if_neg hne] at this
      exact this
    have c11 : w1.cell? ⟨g, 1, none⟩ = some (.map (some gc)) := k1.cell 1
    have hgl1 := k1.lt
    have hcl := chF_len L p
    have hlt := cntI_lt (chF_up hW.1 p) hm
    have HBs : Hid (Calls Tryz.prog 130 #[.slice (some ⟨bl p, 0, none⟩) (chF L p).length (cp p), .int .i64 c] w1 fun e w2 => e = .returned (.tuple #[.int .i64 (cntI (chF L p) c : Nat), .bool true]) ∧ Below w1.heap.size w1 w2) := Lib.hid (by
      obtain ⟨a, cap, e, hr⟩ := r1.row
      injection e with e1 _ e3
      subst e1 e3
      have := find9_below (cap := cp p) hr (by omega) (up_le (chF_up hW.1 p)) c
      rwa [decide_eq_true hm] at this)
    have HDl : Hid (∀ w2, Below w1.heap.size w1 w2 → Calls Tryz.prog 131 #[.slice (some ⟨bl p, 0, none⟩) (chF L p).length (cp p), .int .i64 (cntI (chF L p) c : Nat), .int .i64 ((cntI (chF L p) c : Nat) + 1)] w2 fun e w3 => e = .returned (.slice (some ⟨bl p, 0, none⟩) ((chF L p).length - 1) (cp p)) ∧ w3.cell? ⟨g, 1, none⟩ = some (.map (some gc)) ∧ g < w3.heap.size ∧
        ∃ w4, (if (chF L p).length - 1 = 0 then (∀ ty, (Builtin.delete_ #[125, 31] ty #[.map (some gc), .int .i64 p]).run Tryz.prog w3 = .ok (.tuple #[]) w4) else (Instr.mapUpdate 125 (.map (some gc)) (.int .i64 p) (.slice (some ⟨bl p, 0, none⟩) ((chF L p).length - 1) (cp p))).run Tryz.prog w3 = .ok () w4) ∧ ChF LFB w w4 g F (freeF L c)) := Lib.hid (fun w2 hb2 => by
      refine (del9_any (r1.keep hb2) hlt).mono ?_
      rintro e w3 ⟨rfl, r3, hg3⟩
      have k3 : Blk w3 g 127 #[.map (some gp), .map (some gc)] := (k1.keep hb2).same (grown_at hg3 (k1.keep hb2).lt (fun e => ho.1 e.symm))
      have d3 : MF cK w3 gc (chO L bl cp) := (d1.keep hb2).same (grown_at hg3 (d1.keep hb2).lt (fun e => ho.2.2 e.symm))
      refine ⟨rfl, k3.cell 1, k3.lt, ?_⟩
      have hcut := cutI_len (chF_up hW.1 p) hm
      by_cases z : (chF L p).length - 1 = 0
      · obtain ⟨w4, hd4, hm4, hg4⟩ := d3.del hpr
        refine ⟨w4, by rw [if_pos z]; exact hd4, h.cutEnd hF hW hp hm1 hg1 hb2 r3 hg3 ?_ hg4⟩
        rw [if_pos (List.eq_nil_of_length_eq_zero (by omega))]
        exact hm4
      · obtain ⟨w4, hd4, hm4, hg4⟩ := d3.put hpr (bl p, (chF L p).length - 1, cp p) (L.map Prod.snd) (fun y hy => by
          unfold upm at hy
          have hyn : chF L y ≠ [] := by
            by_cases q : y = p
            · rw [q]; exact hne
            · rw [if_neg q] at hy
              unfold chO at hy
              intro e
              rw [if_pos e] at hy
              cases hy
          obtain ⟨z, hz⟩ := List.exists_mem_of_ne_nil _ hyn
          exact List.mem_map.2 ⟨_, par_mem ((mem_chF hW.1).1 hz), rfl⟩) (by rw [List.length_map]; omega)
        refine ⟨w4, by rw [if_neg z]; exact hd4, h.cutEnd hF hW hp hm1 hg1 hb2 r3 hg3 ?_ hg4⟩
        rw [if_neg (fun e => z (by rw [← hcut, e]; rfl))]
        exact hm4)
    obtain ⟨n, hn⟩ : ∃ n, n = (chF L p).length := ⟨_, rfl⟩
    obtain ⟨i, hi⟩ : ∃ i, i = cntI (chF L p) c := ⟨_, rfl⟩
    obtain ⟨L', hL'⟩ : ∃ L', L' = freeF L c := ⟨_, rfl⟩
    obtain ⟨b, hb⟩ : ∃ b, b = bl p := ⟨_, rfl⟩
    obtain ⟨cc, hcc⟩ : ∃ cc, cc = cp p := ⟨_, rfl⟩
    rw [← hn, ← hb, ← hcc] at hl1 HBs HDl
    rw [← hi] at HBs HDl hlt
    rw [← hn] at hlt hcl
    rw [← hL'] at HDl ⊢
    clear h00 h hF hp hW hm hne ho hm1 hg1 k1 d1 r1 hn hi hL' hb hcc hpr hc
    go_enter Tryz.func95, Tryz.ntmps95
    go_wp2_with (at_builtin; refine wpList_del9 rfl (.tmp 24) (.tmp 25) 124 31 rfl _ _ rfl rfl (hd1 _) ?_)
    refine HBs.out.mono ?_
    rintro e w2 ⟨rfl, b2⟩
    have HD := Lib.hid (HDl.out w2 b2)
    clear b2 HBs HDl
    have hw : IntKind.i64.wrap ((i : Int) + 1) = (i : Int) + 1 := by rw [IntKind.wrap_i64]; omega
    go_wp2_with fail
    refine HD.out.mono ?_
    rintro e w3 ⟨rfl, c13, hg3, w4, hrun, hch⟩
    have HCh := Lib.hid hch
    clear hch HD
    by_cases z : n - 1 = 0
    · rw [if_pos z] at hrun
      rw [z]
      go_wp2_with (at_builtin; refine wpList_del9 rfl (.tmp 49) (.tmp 50) 125 31 rfl _ _ rfl rfl (hrun _) ?_)
      go_ret
      exact ⟨rfl, HCh.out⟩
    · rw [if_neg z] at hrun
      obtain ⟨m, hm⟩ : ∃ m, m = n - 1 := ⟨_, rfl⟩
      rw [← hm] at z hrun ⊢
      have z1 : ¬ ((m : Int) = 0) := by omega
      clear hm
      go_wp2
      go_ret
      exact ⟨rfl, HCh.out⟩
set_option maxRecDepth 100000 in
theorem LF.hangEnd (h : LF w g L gp gc bl cp) (hF : ∀ b, F b ↔ lfoot9 L g gp gc bl b) (hW : WF L) (hL : L.length ≤ 1000) (hcp : parO L c = none) (hc : Rg c) (hp : Rg p) (hb1 : Below w.heap.size w w1) {b cap : Nat}
    (hr2 : OwnD w2 0 (.slice (some ⟨b, 0, none⟩) ((chF L p).length + 1) cap) ((chF L p).length + 1) (putI (chF L p) c)) (hg2 : w1.grownBy w2 (cV (chO L bl cp p)).ownBlock) (hb : (cV (chO L bl cp p)).ownBlock = some b ∨ w.heap.size ≤ b) :
    ∃ w3 w4, (Instr.mapUpdate 125 (.map (some gc)) (.int .i64 p) (.slice (some ⟨b, 0, none⟩) ((chF L p).length + 1) cap)).run Tryz.prog w2 = .ok () w3 ∧ (Instr.mapUpdate 124 (.map (some gp)) (.int .i64 c) (.int .i64 p)).run Tryz.prog w3 = .ok () w4 ∧ ChF LFB w w4 g F (setF L c p) ∧ w2.cell? ⟨g, 1, none⟩ = some (.map (some gc)) ∧ w3.cell? ⟨g, 0, none⟩ = some (.map (some gp)) ∧ w3.cell? ⟨g, 1, none⟩ = some (.map (some gc)) ∧ g < w2.heap.size ∧ g < w3.heap.size := by
  have h1 := h.keep hb1
  have hs := ch_set_self (p := p) hW.1 hcp
  have hso : ∀ x, x ≠ p → chF (setF L c p) x = chF L x := fun x hx => ch_set_other hW.1 hcp hx
  have hown : ∀ k, (cV (chO L bl cp p)).ownBlock = some k → chF L p ≠ [] ∧ k = bl p := fun k e => by
    unfold chO at e
    by_cases q : chF L p = []
    · rw [if_pos q] at e; cases e
    · rw [if_neg q] at e
      injection e with e
      exact ⟨q, e.symm⟩
  have hst : ∀ k, k < w1.heap.size → (chF L p ≠ [] → k ≠ bl p) → w2.heap[k]? = w1.heap[k]? := fun k hk hne => hg2.block k hk (fun e => by
    obtain ⟨q1, q2⟩ := hown k e.symm
    exact hne q1 q2)
  have k2 : Blk w2 g 127 #[.map (some gp), .map (some gc)] := h1.blk.same (hst g h1.blk.lt (fun q e => (h.off p q).1 e.symm))
  have d2 : MF cK w2 gc (chO L bl cp) := h1.chd.same (hst gc h1.chd.lt (fun q e => (h.off p q).2.2 e.symm))
  have m2 : MF pK w2 gp (parO L) := h1.par.same (hst gp h1.par.lt (fun q e => (h.off p q).2.1 e.symm))
  have hne2 : ∀ y, chF L y ≠ [] → y ∈ L.map Prod.snd := fun y hy => by
    obtain ⟨z, hz⟩ := List.exists_mem_of_ne_nil _ hy
    exact List.mem_map.2 ⟨_, par_mem ((mem_chF hW.1).1 hz), rfl⟩
  obtain ⟨w3, hr3, d3, hg3⟩ := d2.put hp (b, (chF L p).length + 1, cap) (p :: L.map Prod.snd) (fun y hy => by
    unfold upm at hy
    by_cases q : y = p
    · rw [q]; exact List.mem_cons_self
    · rw [if_neg q] at hy
      refine List.mem_cons_of_mem _ (hne2 y (fun e => ?_))
      unfold chO at hy
      rw [if_pos e] at hy
      cases hy) (by rw [List.length_cons, List.length_map]; omega)
  have m3 : MF pK w3 gp (parO L) := m2.same (grown_at hg3 m2.lt h.ne3)
  have k3 : Blk w3 g 127 #[.map (some gp), .map (some gc)] := k2.same (grown_at hg3 k2.lt h.ne2)
  obtain ⟨w4, hr4, m4, hg4⟩ := m3.put hc p (c :: L.map Prod.fst) (fun y hy => by
    unfold upm at hy
    by_cases q : y = c
    · rw [q]; exact List.mem_cons_self
    · rw [if_neg q] at hy
      obtain ⟨z, hz⟩ := Option.isSome_iff_exists.1 hy
      exact List.mem_cons_of_mem _ (List.mem_map.2 ⟨_, par_mem hz, rfl⟩)) (by rw [List.length_cons, List.length_map]; omega)
  have hb0 : b ≠ g ∧ b ≠ gp ∧ b ≠ gc := by
    rcases hb with q | q
    · obtain ⟨q1, q2⟩ := hown b q
      rw [q2]; exact h.off p q1
    · have := h.blk.lt; have := h.par.lt; have := h.chd.lt
      exact ⟨by omega, by omega, by omega⟩
  refine ⟨w3, w4, hr3, hr4, ?_, k2.cell 1, k3.cell 0, k3.cell 1, k2.lt, k3.lt⟩
  refine (h.step (L' := setF L c p) (bl' := fun x => if x = p then b else bl x) (cp' := fun x => if x = p then cap else cp x) (p := p) hF (fr_grown (fr_grown (fr_grown (fr_below (fr_none w _) hb1) hg2 (fun k e => Or.inl (Or.inr (Or.inr (hown k e))))) hg3 (fun k e => Or.inl (Or.inr (Or.inl (by injection e with e; exact e.symm))))) hg4 (fun k e => Or.inl (Or.inl (by injection e with e; exact e.symm)))) ?_ ?_ ?_ ?_ (fun x hx => ⟨hso x hx, if_neg hx, if_neg hx⟩) (set_rng h.rng hc hp)).2
  · exact MF.eq m4 (fun x _ => by rw [par_set]; rfl)
  · refine MF.eq (d3.same (grown_at hg4 d3.lt (fun e => h.ne3 e.symm))) (fun x _ => ?_)
    unfold upm chO
    by_cases q : x = p
    · subst q
      rw [hs, putI_len, if_neg (fun e => by have := putI_len (chF L x) c; rw [e] at this; simp at this), if_pos rfl]
      simp
    · simp [hso x q, q]
  · intro _
    rw [hs, putI_len, if_pos rfl, if_pos rfl]
    have hb3 : b < w3.heap.size := Nat.lt_of_lt_of_le (hr2.lt _ rfl).2 hg3.size
    exact hr2.same (fun k e => by
      injection e with e
      have e : b = k := e
      subst e
      exact (grown_at hg4 hb3 hb0.2.1).trans (grown_at hg3 (hr2.lt _ rfl).2 hb0.2.2))
  · intro _
    rw [if_pos rfl]
    rcases hb with q | q
    · exact Or.inl (hown b q)
    · exact Or.inr q
set_option maxHeartbeats 4000000 in
set_option maxRecDepth 100000 in
theorem lhang_any (h0 : LFB w g F L) (hW : WF L) (hL : L.length ≤ 1000) (hc : Rg c) (hp : Rg p) (hcp : parO L c = none) :
    Calls Tryz.prog 96 #[.pointer (some ⟨g, 0, none⟩), .int .i64 c, .int .i64 p] w fun e w' => e = .returned (.tuple #[]) ∧ ChF LFB w w' g F (setF L c p) := by
  obtain ⟨gp, gc, bl, cp, h, hF⟩ := h0
  have hcl := chF_len L p
  have hle := cntI_le (chF L p) c
  have HLk : Hid (∀ u, Below w.heap.size w u → u.cell? ⟨g, 1, none⟩ = some (.map (some gc)) ∧ g < u.heap.size) := Lib.hid (fun u q => ⟨(h.keep q).c1, (h.keep q).blk.lt⟩)
  have hl : (Instr.lookup 125 (.map (some gc)) (.int .i64 p) false).run Tryz.prog w = .ok (cV (chO L bl cp p)) w := h.chd.get hp
  have HBs : Hid (Calls Tryz.prog 130 #[cV (chO L bl cp p), .int .i64 c] w fun e w2 => ∃ fb, e = .returned (.tuple #[.int .i64 (cntI (chF L p) c : Nat), .bool fb]) ∧ Below w.heap.size w w2) := Lib.hid (by
    obtain ⟨a, cap, e, hr⟩ := h.rowOf p
    rw [e]
    exact (find9_below (cap := cap) hr (by omega) (up_le (chF_up hW.1 p)) c).mono fun _ _ q => ⟨_, q⟩)
  have HIn : Hid (∀ u, Below w.heap.size w u → Calls Tryz.prog 132 #[cV (chO L bl cp p), .int .i64 (cntI (chF L p) c : Nat), .slice (some ⟨u.heap.size, 0, none⟩) 1 1] (u.alloc (.cells #[.int .i64 c] 31)) fun e w2 => ∃ b cap, e = .returned (.slice (some ⟨b, 0, none⟩) ((chF L p).length + 1) cap) ∧ ∃ w3 w4, (Instr.mapUpdate 125 (.map (some gc)) (.int .i64 p) (.slice (some ⟨b, 0, none⟩) ((chF L p).length + 1) cap)).run Tryz.prog w2 = .ok () w3 ∧ (Instr.mapUpdate 124 (.map (some gp)) (.int .i64 c) (.int .i64 p)).run Tryz.prog w3 = .ok () w4 ∧ ChF LFB w w4 g F (setF L c p) ∧ w2.cell? ⟨g, 1, none⟩ = some (.map (some gc)) ∧ w3.cell? ⟨g, 0, none⟩ = some (.map (some gp)) ∧ w3.cell? ⟨g, 1, none⟩ = some (.map (some gc)) ∧ g < w2.heap.size ∧ g < w3.heap.size) := Lib.hid (fun u q => by
    have hal : Below u.heap.size u (u.alloc (.cells #[.int .i64 c] 31)) := alloc_below _ _
    have hb1 : Below w.heap.size w (u.alloc (.cells #[.int .i64 c] 31)) := bthen q hal
    have hf := (h.keep hb1).fam p
    have hfu := (h.keep q).fam p
    refine (ins9_any (i := cntI (chF L p) c) hf (Nat.zero_le _) (Blk.new u _ _) (fun e => by have := (hfu.lt _ e).2; omega) hle (by omega)).mono ?_
    rintro e w2 ⟨b, cap, rfl, r2, g2, hb⟩
    refine ⟨b, cap, rfl, h.hangEnd hF hW hL hcp hc hp hb1 r2 g2 (hb.imp_right (fun k => Nat.le_trans hb1.size k))⟩)
  obtain ⟨a0, cap0, hv, hr0⟩ := h.rowOf p
  obtain ⟨n, hn⟩ : ∃ n, n = (chF L p).length := ⟨_, rfl⟩
  obtain ⟨i, hi⟩ : ∃ i, i = cntI (chF L p) c := ⟨_, rfl⟩
  obtain ⟨L', hL'⟩ : ∃ L', L' = setF L c p := ⟨_, rfl⟩
  rw [hv] at hl HBs HIn
  rw [← hn] at hl HBs HIn
  rw [← hi] at HBs HIn
  rw [← hL'] at HIn ⊢
  obtain ⟨c1, hg⟩ := HLk.out w (Below.refl _ _)
  clear h hF hW hcp hv hr0 hn hi hL' hcl hle hc hp
  go_enter Tryz.func96, Tryz.ntmps96
  go_wp2_with fail
  refine HBs.out.mono ?_
  rintro e w1 ⟨fb, rfl, b1⟩
  have HB := Lib.hid b1
  obtain ⟨c11, hg1⟩ := HLk.out w1 b1
  clear b1 c1 hg hl HBs
  go_wp2
  go_region_held3 (fun w' => w'.cell? ⟨g, 1, none⟩ = some (.map (some gc))) (first | exact c11 | go_keep)
    (first | (go_at_call 132; refine (HIn.out _ (bthen HB.out (bdrewn (Below.refl _ _)))).mono ?_; rintro e w2 ⟨b, cap, rfl, w3, w4, hr3, hr4, hch, c2, c3, c4, z2, z3⟩; have HCh := Lib.hid hch; clear hch))
  go_wp2
  go_end0
  exact ⟨rfl, HCh.out⟩
end
section
variable {FB : World → Nat → (Nat → Prop) → FT → Prop}
end
end Go.Proofs.YtkondkajpmafkaaGreat
