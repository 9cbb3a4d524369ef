/-
  5 texts in one file, each with its own heading.
-/
import Derived.Test.YtjcibffhlhdjeaaMU14
import Derived.Test.YtjcibffhlhdjeaaMU07
import Derived.Deep.RegionHeld3
import Derived.Deep.Cut
import Derived.Deep.CutRange
/-
  No name is given twice: what the law's list of given names keeps; the law's walk, for any pool that answers as the bundle says.
-/
namespace Go.Proofs.Ytjcibffhlhdjeaa
open Go.RowKit

structure St where
  room : Nat
  G : Nat → Int
  L : Nat → Bool
  T : Nat → TR
  now : Int
  ch : List (Int × Int)
  go : List (Int × Int)
def liveS (S : St) (id : Int) : Bool := liveB S.G S.L id
def inS (S : St) (id : Int) (P : PT) : Prop := ∃ i, i < 32 ∧ (id, P) ∈ S.T i
structure WS (S : St) : Prop where
  nod : ∀ i, i < 32 → ((S.T i).map Prod.fst).Nodup
  apart : ∀ i, i < 32 → ∀ j, j < 32 → i ≠ j → ∀ x P Q, (x, P) ∈ S.T i → (x, Q) ∉ S.T j
  fit : ∀ i, i < 32 → ∀ x ∈ S.T i, fitsB i x.2 = true
  live : ∀ x, liveS S x = true ↔ ∃ P, inS S x P
  ok : POk S.room S.G S.L
structure Told (S1 : St → Prop) (I : Int → PT → Prop) (since : Int) (S : St) : Prop where
  ws : WS S
  now : since < S.now
  chg : ∀ x P, inS S x P → I x P ∨ ∃ t, (x, t) ∈ S.ch ∧ since < t
  gon : ∀ x P, I x P → (∃ Q, inS S x Q) ∨ ∃ t, (x, t) ∈ S.go ∧ since < t
theorem Fr.after {w w1 w2 : World} {L : Nat → Prop} (hb : Below w.heap.size w w1) (h : Fr w1 w2 L) : Fr w w2 L :=
  ⟨h.1.trans hb.os, h.2.1.trans hb.tape, h.2.2.1.trans hb.output, Nat.le_trans hb.size h.2.2.2.1, fun b hl hn => (h.2.2.2.2 b (Nat.lt_of_lt_of_le hl hb.size) hn).trans (hb.block b hl)⟩
theorem Fr.behind {w w1 w2 : World} {L : Nat → Prop} (h : Fr w w1 L) (hb : Below w1.heap.size w1 w2) : Fr w w2 L :=
  ⟨hb.os.trans h.1, hb.tape.trans h.2.1, hb.output.trans h.2.2.1, Nat.le_trans h.2.2.2.1 hb.size, fun b hl hn => (hb.block b (Nat.lt_of_lt_of_le hl h.2.2.2.1)).trans (h.2.2.2.2 b hl hn)⟩
section
variable {TB : World → Nat → (Nat → Prop) → Int → TR → Prop}
end
def Aw (F : Nat → Prop) (a : Option Addr) (n : Nat) : Prop := n = 0 ∨ ∀ ad, a = some ad → ¬ F ad.block
section
variable {SB : World → Nat → (Nat → Prop) → St → Prop}
end
theorem row_frame {w w' : World} {a : Option Addr} {n : Nat} {zs : List Int} {F : Nat → Prop} (h : Row w a n zs) (ha : Aw F a n) (hf : Fr w w' F) : Row w' a n zs := by
  obtain ⟨h1, h2, h3⟩ := h
  refine ⟨h1, h2, ?_⟩
  rcases h3 with h3 | ⟨b, off, e, hc⟩
  · exact Or.inl h3
  · by_cases c : n = 0
    · exact Or.inl c
    · refine Or.inr ⟨b, off, e, fun i hi => ?_⟩
      have hci := hc i hi
      have hlt := World.block_lt_of_cell? w _ hci
      have hn : ¬ F b := ha.elim (fun d => absurd d c) (fun d => d _ e)
      rw [World.cell?_of_block (w := w) (w' := w') (hf.2.2.2.2 b hlt hn)]
      exact hci
structure A8 where
  k : Int
  at_ : Int
  any : Bool
  id : Int
  P : PT
  a : Option Addr
  n : Nat
  cap : Nat
  ks : List Int
def c8 (x : A8) : List Value := .int .u8 x.k :: .int .u8 x.at_ :: .bool x.any :: .int .i64 x.id :: (pl x.P ++ [.slice x.a x.n x.cap])
end Go.Proofs.Ytjcibffhlhdjeaa
