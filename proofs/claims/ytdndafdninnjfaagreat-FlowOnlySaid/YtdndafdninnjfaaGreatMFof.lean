/-
  3 texts in one file, each with its own heading.
-/
import Derived.Test.YtdndafdninnjfaaGreatMFod
/-
  What the calls of package forest are to answer, as one bundle; the program's forest and the reference's side by side; an act of the law of layer 9, its first two names, its step.
-/
namespace Go.Proofs.YtdndafdninnjfaaGreat
open Go.RowKit

/-- a number of 64 bits -/
def Rg (x : Int) : Prop := -9223372036854775808 ≤ x ∧ x ≤ 9223372036854775807
instance (x : Int) : Decidable (Rg x) := by unfold Rg; exact inferInstance
def Rgs (xs : List Int) : Prop := ∀ x ∈ xs, Rg x
instance (xs : List Int) : Decidable (Rgs xs) := by unfold Rgs; exact inferInstance
theorem Rgs.getD {xs : List Int} (h : Rgs xs) (i : Nat) : Rg (xs.getD i 0) := by
  cases hx : xs[i]? with
  | none => rw [List.getD, hx]; show -9223372036854775808 ≤ (0 : Int) ∧ (0 : Int) ≤ 9223372036854775807; omega
  | some y => rw [List.getD, hx]; exact h y (List.mem_of_getElem? hx)
/-- a slice as it may be -/
def CapOk (v : Value) : Prop := ∃ a n cap, v = .slice a n cap ∧ n ≤ cap
theorem RFB.same {w w' : World} {g : Nat} {F : Nat → Prop} {L : FT} (h : RFB w g F L) (he : ∀ b, F b → w'.heap[b]? = w.heap[b]?) : RFB w' g F L := by
  obtain ⟨v, h1, h2⟩ := h
  exact ⟨v, h1.same (fun b hb => he b ((h2 b).2 hb)), h2⟩
section
variable {FB : World → Nat → (Nat → Prop) → FT → Prop}
/-- both side by side; w0: the world ahead of both -/
structure Duo9 (FB : World → Nat → (Nat → Prop) → FT → Prop) (w0 w : World) (gp gr : Nat) (Fp Fq : Nat → Prop) (Lp Lq : FT) : Prop where
  p : FB w gp Fp Lp
  q : RFB w gr Fq Lq
  far : ∀ b, Fp b → ¬ Fq b
  low : Below w0.heap.size w0 w
  np : ∀ b, Fp b → w0.heap.size ≤ b
  nq : ∀ b, Fq b → w0.heap.size ≤ b
variable {w0 w w' : World} {gp gr : Nat} {Fp Fq : Nat → Prop} {Lp Lq Lp' Lq' : FT}
theorem Duo9.prog (h : Duo9 FB w0 w gp gr Fp Fq Lp Lq) (k : ChF FB w w' gp Fp Lp') : ∃ Fp', Duo9 FB w0 w' gp gr Fp' Fq Lp' Lq := by
  obtain ⟨F', k1, k2, k3⟩ := k
  have hq := h.q.inb
  refine ⟨F', k1, h.q.same (fun b hb => k2.2.2.2.2 b (hq b hb) (fun c => h.far b c hb)), fun b hb hc => ?_, Fr.below k2 h.low h.np h.low.size, fun b hb => ?_, h.nq⟩
  · rcases k3 b hb with d | d
    · exact h.far b d hc
    · have := hq b hc; omega
  · rcases k3 b hb with d | d
    · exact h.np b d
    · exact Nat.le_trans h.low.size d
end
/-! an act -/
structure A9 where
  k : Int
  a : Option Addr
  n : Nat
  cap : Nat
  xs : List Int
def ok9 (w : World) (x : A9) : Prop := 0 ≤ x.k ∧ x.k ≤ 255 ∧ Row w x.a x.n x.xs ∧ Rgs x.xs
end Go.Proofs.YtdndafdninnjfaaGreat
/-
  A step of the law of layer 9, for any package that answers as the bundle says.
-/
namespace Go.Proofs.YtdndafdninnjfaaGreat
open Go.RowKit

section
variable {FB : World → Nat → (Nat → Prop) → FT → Prop}
variable {w0 w w' : World} {gp gr : Nat} {Fp Fq : Nat → Prop} {Lp Lq Lp' Lq' : FT}
end
end Go.Proofs.YtdndafdninnjfaaGreat
/-
  The acts of the law of layer 9 as a row; what Fits answers; its live question, for any package that answers as the bundle says.
-/
namespace Go.Proofs.YtdndafdninnjfaaGreat
open Go.RowKit

def c9 (x : A9) : List Value := [.int .u8 x.k, .slice x.a x.n x.cap]
def ARow9 (w : World) (a : Option Addr) (len : Nat) (xs : List A9) : Prop := xs.length = len ∧ len ≤ 9223372036854775807 ∧ (len = 0 ∨ ∃ b off, a = some ⟨b, off, none⟩ ∧ b < w.heap.size ∧ ∀ i x, xs[i]? = some x → w.rangeAt b (off + i * 2) (c9 x) ∧ ok9 w x)
theorem ok9.keep {w w' : World} {x : A9} (h : ok9 w x) (hb : Below w.heap.size w w') : ok9 w' x := ⟨h.1, h.2.1, row_keep h.2.2.1 hb, h.2.2.2⟩
theorem ARow9.keep {w w' : World} {a : Option Addr} {n : Nat} {xs : List A9} (h : ARow9 w a n xs) (hb : Below w.heap.size w w') : ARow9 w' a n xs := ⟨h.1, h.2.1, h.2.2.imp id (fun ⟨b, o, e, hl, hr⟩ => ⟨b, o, e, Nat.lt_of_lt_of_le hl hb.size, fun i x hx => ⟨range_same (hr i x hx).1 (hb.block b hl), (hr i x hx).2.keep hb⟩⟩)⟩
theorem ARow9.at_ {w : World} {a : Option Addr} {n : Nat} {xs : List A9} (h : ARow9 w a n xs) {i : Nat} (hi : i < n) : ∃ b off x, a = some ⟨b, off, none⟩ ∧ xs[i]? = some x ∧ w.rangeAt b (off + i * 2) (c9 x) ∧ ok9 w x := by
  obtain ⟨h1, h2, h3⟩ := h
  rcases h3 with h3 | ⟨b, off, e, hb, hr⟩
  · omega
  · have hx : xs[i]? = some (xs[i]'(by omega)) := List.getElem?_eq_getElem (by omega)
    exact ⟨b, off, _, e, hx, hr i _ hx⟩
section
variable {FB : World → Nat → (Nat → Prop) → FT → Prop}
/-- it stays behind w -/
theorem ChF.low {w w1 w2 : World} {g : Nat} {F : Nat → Prop} {L : FT} (h : ChF FB w1 w2 g F L) (hb : Below w.heap.size w w1) (hF : ∀ b, F b → w.heap.size ≤ b) : ∃ F', FB w2 g F' L ∧ (∀ b, F' b → w.heap.size ≤ b) ∧ Below w.heap.size w w2 := by
  obtain ⟨F', h1, h2, h3⟩ := h
  exact ⟨F', h1, fun b c => (h3 b c).elim (hF b) (fun d => Nat.le_trans hb.size d), Fr.below h2 hb hF hb.size⟩
theorem row_lit (w : World) (t : TypeId) (xs : List Int) (h : xs.length ≤ 1000) : Row (w.alloc (.cells (xs.map (Value.int .i64)).toArray t)) (some ⟨w.heap.size, 0, none⟩) xs.length xs := by
  refine ⟨rfl, by omega, Or.inr ⟨w.heap.size, 0, rfl, fun i hi => ?_⟩⟩
  have := (Blk.new w t (xs.map (Value.int .i64)).toArray).cell (0 + i)
  rw [this]
  simp [hi, List.getD]
end
end Go.Proofs.YtdndafdninnjfaaGreat
