/-
  3 texts in one file, each with its own heading.
-/
import Derived.Test.YthhfcedhbfandaaGreatMS16
/-
  What the reference's Put of layer 10 answers, and makes of the flow.
-/
namespace Go.Proofs.YthhfcedhbfandaaGreat
open Go.RowKit

theorem any_step {α : Type} {l : List α} {p : α → Bool} {j : Nat} {m : α} (h : l[j]? = some m) : (l.take (j + 1)).any p = ((l.take j).any p || p m) := by
  rw [List.take_add_one, h, List.any_append]
  simp
theorem any_of_at {α : Type} {l : List α} {p : α → Bool} {j : Nat} {m : α} (h : l[j]? = some m) (hp : p m = true) : l.any p = true := List.any_eq_true.2 ⟨m, List.mem_of_getElem? h, hp⟩
def AwX (F : Nat → Prop) (a : Option Addr) (n : Nat) : Prop := n = 0 ∨ ∀ ad, a = some ad → ¬ F ad.block
theorem rowx_frame {α : Type} {k : Nat} {c : α → List Value} {w w' : World} {a : Option Addr} {n : Nat} {X : List α} {F : Nat → Prop} (h : RowX k c w a n X) (ha : AwX F a n) (hf : Fr w w' F) : RowX k c w' a n X := by
  refine ⟨h.1, h.2.1, ?_⟩
  rcases h.2.2 with c | ⟨b, off, e, hb, hr⟩
  · exact Or.inl c
  · rcases ha with q | q
    · exact Or.inl q
    · exact Or.inr ⟨b, off, e, Nat.lt_of_lt_of_le hb hf.2.2.2.1, fun i x hx => range_same (hr i x hx) (hf.2.2.2.2 b hb (q _ e))⟩
section
variable {w : World} {g : Nat} {D : FD} {F : Nat → Prop}
end
structure DInv (w wr : World) (g : Nat) (F : Nat → Prop) (D : FD) (x : Int) (k : Nat) (v6 vl vd vs : Value) : Prop where
  out : OwnX 15 cNd 163 wr w.heap.size v6 ((D.L.take k).filter (fun m => m.id != x))
  rw_ : RW wr g { D with dirty := D.dirty ++ ((D.L.take k).filter (fun n => hangs D.L n.id == x)).map Nd.id } vl vd vs
  fr : Fr w wr F
  sub : ∀ b, footW g vl vd vs b → F b ∨ w.heap.size ≤ b
  far : ∀ b, v6.ownBlock = some b → ¬ footW g vl vd vs b
  old : ∀ b, vl.ownBlock = some b → b < w.heap.size
section
variable {w : World} {g : Nat} {D : FD} {F : Nat → Prop}
end
section
variable {w : World} {g : Nat} {D : FD} {vl vd vs : Value} {F : Nat → Prop}
end
end Go.Proofs.YthhfcedhbfandaaGreat
