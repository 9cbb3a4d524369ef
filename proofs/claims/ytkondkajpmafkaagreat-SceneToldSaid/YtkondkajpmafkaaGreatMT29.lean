/-
  6 texts in one file, each with its own heading.
-/
import Derived.Test.YtkondkajpmafkaaGreatMT27
import Derived.Test.YtkondkajpmafkaaGreatMT25
/-
  The reference's forest where it lies in the reference's scene (cell 1 of its block): what its Parent, Above, Free, Set, Children and Drop of layer 9 answer.
-/
namespace Go.Proofs.YtkondkajpmafkaaGreat
open Go.RowKit

section
variable {sp : Value} {w w' : World} {g : Nat} {v : Value} {L : FT} {F : Nat → Prop}
structure RG (sp : Value) (w : World) (g : Nat) (v : Value) (L : FT) : Prop where
  blk : Blk w g 82 #[sp, v]
  col : ColP w v L
  off : v.ownBlock ≠ some g
def RGB (sp : Value) (w : World) (g : Nat) (F : Nat → Prop) (L : FT) : Prop := ∃ v, RG sp w g v L ∧ ∀ b, F b ↔ footF g v b
end
def Rg (x : Int) : Prop := -9223372036854775808 ≤ x ∧ x ≤ 9223372036854775807
instance (x : Int) : Decidable (Rg x) := by unfold Rg; exact inferInstance
def Rgs (xs : List Int) : Prop := ∀ x ∈ xs, Rg x
instance (xs : List Int) : Decidable (Rgs xs) := by unfold Rgs; exact inferInstance
def LDr (F : Nat → Prop) (w w' : World) (xs : List Int) (v : Value) : Prop := ∃ a cap, v = .slice a xs.length cap ∧ Row w' a xs.length xs ∧ (xs.length = 0 ∨ ∀ ad, a = some ad → F ad.block ∨ w.heap.size ≤ ad.block)
section
variable {FB : World → Nat → (Nat → Prop) → FT → Prop}
structure Duo9 (FB : World → Nat → (Nat → Prop) → FT → Prop) (w0 w : World) (gp gr : Nat) (Fp Fq : Nat → Prop) (Lp Lq : FT) : Prop where
  p : FB w gp Fp Lp
  q : RFB w gr Fq Lq
  far : ∀ b, Fp b → ¬ Fq b
  low : Below w0.heap.size w0 w
  np : ∀ b, Fp b → w0.heap.size ≤ b
  nq : ∀ b, Fq b → w0.heap.size ≤ b
variable {w0 w w' : World} {gp gr : Nat} {Fp Fq : Nat → Prop} {Lp Lq Lp' Lq' : FT}
end
structure A9 where
  k : Int
  a : Option Addr
  n : Nat
  cap : Nat
  xs : List Int
structure Duo (SB : World → Nat → (Nat → Prop) → St → Prop) (w0 w : World) (gp gr : Nat) (Fp Fq : Nat → Prop) (S1 S2 : St) : Prop where
  sp : SB w gp Fp S1
  rb : RB w gr Fq S2
  dis : ∀ b, Fp b → ¬ Fq b
  bel : Below w0.heap.size w0 w
  fp : ∀ b, Fp b → w0.heap.size ≤ b
  fq : ∀ b, Fq b → w0.heap.size ≤ b
section
variable {SB : World → Nat → (Nat → Prop) → St → Prop} {w0 w w' : World} {gp gr : Nat} {Fp Fq : Nat → Prop} {S1 S2 S' : St}
theorem aw_in {w0 : World} {a : Option Addr} {n : Nat} {zs : List Int} {F : Nat → Prop} (h : Row w0 a n zs) (hF : ∀ b, F b → w0.heap.size ≤ b) : Aw F a n := by
  rcases h.2.2 with c | ⟨b, off, e, hc⟩
  · exact Or.inl c
  · by_cases c : n = 0
    · exact Or.inl c
    · refine Or.inr (fun ad e2 hf => ?_)
      rw [e] at e2
      injection e2 with e2
      have h1 := World.block_lt_of_cell? w0 _ (hc 0 (by omega))
      have h2 := hF _ hf
      rw [← e2] at h2
      have h3 : b < w0.heap.size := h1
      have h4 : w0.heap.size ≤ b := h2
      omega
theorem aw_new2 {W : World} {F : Nat → Prop} {n : Nat} (hF : ∀ b, F b → b < W.heap.size) : Aw F (some ⟨W.heap.size, 0, none⟩) n := Or.inr (fun ad e hf => by
  injection e with e
  rw [← e] at hf
  have h2 : W.heap.size < W.heap.size := hF _ hf
  omega)
end
section
variable {SB : World → Nat → (Nat → Prop) → St → Prop}
end
section
variable {SB : World → Nat → (Nat → Prop) → St → Prop}
end
end Go.Proofs.YtkondkajpmafkaaGreat
