/-
  4 texts in one file, each with its own heading.
-/
import Derived.Test.YthhfcedhbfandaaGreatMS13
/-
  The reference's store: what its Spawn and lay of layer 8 answer.
-/
namespace Go.Proofs.YthhfcedhbfandaaGreat
open Go.RowKit

theorem Fr.two {a b d : World} {F F' : Nat → Prop} (h : Fr a b F) (h' : Fr b d F') (hn : ∀ x, F' x → F x ∨ a.heap.size ≤ x) : Fr a d F :=
  ⟨h'.1.trans h.1, h'.2.1.trans h.2.1, h'.2.2.1.trans h.2.2.1, Nat.le_trans h.2.2.2.1 h'.2.2.2.1, fun x hx hf => (h'.2.2.2.2 x (Nat.lt_of_lt_of_le hx h.2.2.2.1) (fun c => (hn x c).elim (fun d => hf d) (fun d => by omega))).trans (h.2.2.2.2 x hx hf)⟩
end Go.Proofs.YthhfcedhbfandaaGreat
