/-
  7 texts in one file, each with its own heading.
-/
import Derived.Test.YthhfcedhbfandaaGreatMS08
import Derived.Test.YthhfcedhbfandaaGreatMS14
import Derived.Test.YthhfcedhbfandaaGreatMS13
import Derived.Test.YthhfcedhbfandaaGreatMS02
/-
  The reference's forest in memory: pairs; what its Parent, Above and Free of layer 9 answer.
-/
namespace Go.Proofs.YthhfcedhbfandaaGreat
open Go.RowKit

def mkPr (m : Int × Int) : Int × PT := (m.1, m.2, zI, 0, zI, 0, 0, false, 0)
def cPr (x : Int × PT) : List Value := [.int .i64 x.1, .int .i64 x.2.1]
def ColP (w : World) (v : Value) (L : FT) : Prop := ColX w 269 2 cPr v (L.map mkPr)
structure RF (w : World) (g : Nat) (v : Value) (L : FT) : Prop where
  blk : Blk w g 77 #[v]
  col : ColP w v L
  off : v.ownBlock ≠ some g
def footF (g : Nat) (v : Value) (b : Nat) : Prop := b = g ∨ v.ownBlock = some b
def RFB (w : World) (g : Nat) (F : Nat → Prop) (L : FT) : Prop := ∃ v, RF w g v L ∧ ∀ b, F b ↔ footF g v b
def ChF (FB : World → Nat → (Nat → Prop) → FT → Prop) (w w' : World) (g : Nat) (F : Nat → Prop) (L : FT) : Prop := ∃ F', FB w' g F' L ∧ Fr w w' F ∧ ∀ b, F' b → F b ∨ w.heap.size ≤ b
section
variable {w w' : World} {g : Nat} {v : Value} {L : FT} {F : Nat → Prop}
end
theorem ChF.of {FB : World → Nat → (Nat → Prop) → FT → Prop} {w w1 w2 : World} {g : Nat} {F : Nat → Prop} {L : FT} (h : ChF FB w1 w2 g F L) (hb : Below w.heap.size w w1) : ChF FB w w2 g F L := by
  obtain ⟨F', h1, h2, h3⟩ := h
  exact ⟨F', h1, Fr.after hb h2, fun b hf => (h3 b hf).imp_right (fun c => Nat.le_trans hb.size c)⟩
theorem ChF.join {FB : World → Nat → (Nat → Prop) → FT → Prop} {w w1 w2 : World} {g : Nat} {F F' : Nat → Prop} {L : FT} (hfr : Fr w w1 F) (hn : ∀ b, F' b → F b ∨ w.heap.size ≤ b) (k : ChF FB w1 w2 g F' L) : ChF FB w w2 g F L := by
  obtain ⟨F'', k1, k2, k3⟩ := k
  refine ⟨F'', k1, ⟨k2.1.trans hfr.1, k2.2.1.trans hfr.2.1, k2.2.2.1.trans hfr.2.2.1, Nat.le_trans hfr.2.2.2.1 k2.2.2.2.1, fun b hb hnn => ?_⟩, fun b hb => ?_⟩
  · refine (k2.2.2.2.2 b (Nat.lt_of_lt_of_le hb hfr.2.2.2.1) (fun c => ?_)).trans (hfr.2.2.2.2 b hb hnn)
    rcases hn b c with d | d
    · exact hnn d
    · omega
  · rcases k3 b hb with d | d
    · exact hn b d
    · exact Or.inr (Nat.le_trans hfr.2.2.2.1 d)
def parV (o : Option Int) : Int := match o with | some y => y | none => 0
def abM (L : FT) (v : Value) : Nat := (abv L (ivl v)).length + 1
structure Nd where
  id : Int
  par : Int
  pl : Nat → Int
  hid : Bool
instance : Inhabited Nd := ⟨⟨0, 0, fun _ => 0, false⟩⟩
structure Stt where
  id : Int
  wo : Nat → Int
  sh : Bool
instance : Inhabited Stt := ⟨⟨0, fun _ => 0, false⟩⟩
def elF {α : Type} (f : α → Int) (L : List α) (x : Int) : Option α := L.find? (fun n => f n == x)
def ixF {α : Type} (f : α → Int) (L : List α) (x : Int) : Int := match L.findIdx? (fun n => f n == x) with | some i => (i : Int) | none => -1
def hangs (L : List Nd) (x : Int) : Int := match elF Nd.id L x with
  | none => -1
  | some n => if n.par < 0 ∨ (elF Nd.id L n.par).isNone = true then -1 else n.par
def ringI (L : List Nd) : Nat → Int → Int
  | 0, x => x
  | k + 1, x => if 0 ≤ x then ringI L k (hangs L x) else x
def ringB (L : List Nd) (x : Int) : Bool := decide (0 ≤ ringI L (L.length + 1) (hangs L x))
def withN (L : List Nd) (n : Nd) : List Nd := L.filter (fun m => m.id != n.id) ++ [n]
def withS (L l : List Nd) : List Nd := l.foldl withN L
def badN (n : Nd) : Bool := !okM n.pl || decide (n.id < 0)
structure FD where
  L : List Nd
  dirty : List Int
  begun : Bool
  sts : List Stt
  steps : Nat
def FD0 : FD := ⟨[], [], false, [], 0⟩
def putFE (D : FD) (l : List Nd) : Int := if l.any badN then 1 else if (withS D.L l).any (fun n => ringB (withS D.L l) n.id) then 8 else 0
def putFD (D : FD) (l : List Nd) : FD := if putFE D l = 0 then { D with L := withS D.L l, dirty := D.dirty ++ l.map Nd.id } else D
def dropFB (D : FD) (x : Int) : Bool := (elF Nd.id D.L x).isSome
def dropFD (D : FD) (x : Int) : FD := if dropFB D x then { D with L := D.L.filter (fun m => m.id != x), dirty := D.dirty ++ (D.L.filter (fun n => hangs D.L n.id == x)).map Nd.id } else D
def namesN (L : List Nd) : List Int := sortI (L.map Nd.id)
def treesN (L : List Nd) : FT := L.filterMap (fun n => if 0 ≤ hangs L n.id then some (n.id, hangs L n.id) else none)
def dirtyN (D : FD) : List Int := if D.begun then D.dirty.filter (fun x => decide (x ∈ namesN D.L)) else namesN D.L
def touchN (D : FD) : List Int := undL (treesN D.L) (dirtyN D)
structure Acc where
  out : List Stt
  least : Int
  e : Int
def failA (s : Acc) (x e : Int) : Acc := if s.least < 0 ∨ x < s.least then ⟨s.out, x, e⟩ else s
def allA (L : List Nd) (s : Acc) (x : Int) : Acc := match elF Nd.id L x with
  | none => s
  | some n => if hangs L n.id < 0 then ⟨s.out ++ [⟨n.id, n.pl, !n.hid⟩], s.least, s.e⟩ else match elF Stt.id s.out (hangs L n.id) with
    | none => s
    | some u => if 16 < (abv (treesN L) n.id).length + 1 then failA s n.id 7 else if prodE2 u.wo n.pl = 0 then ⟨s.out ++ [⟨n.id, prodM u.wo n.pl, u.sh && !n.hid⟩], s.least, s.e⟩ else failA s n.id (prodE2 u.wo n.pl)
def orderN (L : List Nd) : List Int := undL (treesN L) (namesN L)
def allN (L : List Nd) : Acc := (orderN L).foldl (allA L) ⟨[], -1, 0⟩
def runE (D : FD) : Int := (allN D.L).e
def runD (D : FD) : FD := { D with dirty := [], begun := decide (runE D = 0), sts := if runE D = 0 then (allN D.L).out else [], steps := D.steps + (touchN D).length }
def stateN (D : FD) (x : Int) : Option Stt := if D.begun = true ∧ x ∉ touchN D ∧ (elF Nd.id D.L x).isSome = true then elF Stt.id D.sts x else none
section
variable {α : Type} {f : α → Int} {L : List α} {x : Int} {n : α}
theorem ix_some (h : elF f L x = some n) : ∃ k : Nat, ixF f L x = (k : Int) ∧ L[k]? = some n ∧ k < L.length ∧ f n = x := by
  unfold elF at h
  have hx := List.find?_some h
  cases hf : L.findIdx? (fun n => f n == x) with
  | none =>
    rw [List.findIdx?_eq_none_iff] at hf
    have := hf n (List.mem_of_find?_eq_some h)
    rw [this] at hx
    cases hx
  | some k =>
    obtain ⟨hlt, hyes, hmin⟩ := List.findIdx?_eq_some_iff_getElem.1 hf
    refine ⟨k, by unfold ixF; rw [hf], ?_, hlt, by simpa using hx⟩
    rw [List.find?_eq_some_iff_getElem] at h
    obtain ⟨_, i, hi, e, hno⟩ := h
    have : i = k := by
      rcases Nat.lt_trichotomy i k with c | c | c
      · have := hmin i c
        rw [e] at this
        exact absurd hx this
      · exact c
      · have := hno k c
        rw [hyes] at this
        cases this
    subst this
    rw [List.getElem?_eq_getElem hlt, e]
end
theorem hangs_none {L : List Nd} {x : Int} (h : elF Nd.id L x = none) : hangs L x = -1 := by
  unfold hangs
  rw [h]
theorem hangs_some {L : List Nd} {x : Int} {n : Nd} (h : elF Nd.id L x = some n) : hangs L x = if n.par < 0 ∨ (elF Nd.id L n.par).isNone = true then -1 else n.par := by
  unfold hangs
  rw [h]
def cNd (n : Nd) : List Value := [.int .i64 n.id, .int .i64 n.par, .int .i64 (n.pl 0), .int .i64 (n.pl 1), .int .i64 (n.pl 2), .int .i64 (n.pl 3), .int .i64 (n.pl 4), .int .i64 (n.pl 5), .int .i64 (n.pl 6), .int .i64 (n.pl 7), .int .i64 (n.pl 8), .int .i64 (n.pl 9), .int .i64 (n.pl 10), .int .i64 (n.pl 11), .bool n.hid]
def cSt (s : Stt) : List Value := [.int .i64 s.id, .int .i64 (s.wo 0), .int .i64 (s.wo 1), .int .i64 (s.wo 2), .int .i64 (s.wo 3), .int .i64 (s.wo 4), .int .i64 (s.wo 5), .int .i64 (s.wo 6), .int .i64 (s.wo 7), .int .i64 (s.wo 8), .int .i64 (s.wo 9), .int .i64 (s.wo 10), .int .i64 (s.wo 11), .bool s.sh]
theorem cNd_len (n : Nd) : (cNd n).length = 15 := rfl
abbrev NRow := RowX 15 cNd
abbrev SRow := RowX 14 cSt
theorem cNd_one (n : Nd) : ∀ u ∈ cNd n, u.oneCell' = true := fun u hu => by
  unfold cNd at hu
  simp only [List.mem_cons, List.not_mem_nil, or_false] at hu
  rcases hu with h | h | h | h | h | h | h | h | h | h | h | h | h | h | h <;> (rw [h]; rfl)
structure NX (X : List Value) (n : Nd) : Prop where
  eq : X = cNd n
  len : X.length = 15
  size : (Tryz.prog.info? 163).map (·.size) = some X.length
  one : ∀ u ∈ X, u.oneCell' = true
  bs : ∀ W, (Instr.buildSlice 34 1 #[(0, .agg X.toArray)]).run Tryz.prog W = .ok (.slice (some ⟨W.heap.size, 0, none⟩) 1 1) (W.alloc (.cells X.toArray 163))
end Go.Proofs.YthhfcedhbfandaaGreat
