/-
  4 texts in one file, each with its own heading.
-/
import Derived.Test.YtkondkajpmafkaaGreatMP27
import Derived.Test.YtkondkajpmafkaaGreatMP02
/-
  The reference's forest: what its Free, Set, Children and Drop of layer 9 answer.
-/
namespace Go.Proofs.YtkondkajpmafkaaGreat
open Go.RowKit

theorem pinfo : (Tryz.prog.info? 143).map (fun i => (i.zero, i.size, i.bytes)) = some (some (.agg #[.int .i64 0, .int .i64 0]), 2, 16) := by kernel_rfl
theorem pone (x y : Int) : ∀ u ∈ ([.int .i64 x, .int .i64 y] : List Value), u.oneCell' = true := fun u hu => by
  simp only [List.mem_cons, List.not_mem_nil, or_false] at hu
  rcases hu with rfl | rfl <;> rfl
theorem free_yes {L : FT} {k : Nat} {m : Int × Int} {id : Int} (h : L[k]? = some m) (he : m.1 ≠ id) : freeF (L.take (k + 1)) id = freeF (L.take k) id ++ [m] := by
  unfold freeF
  rw [List.take_add_one, List.filter_append, h]
  simp [he]
theorem free_no {L : FT} {k : Nat} {m : Int × Int} {id : Int} (h : L[k]? = some m) (he : m.1 = id) : freeF (L.take (k + 1)) id = freeF (L.take k) id := by
  unfold freeF
  rw [List.take_add_one, List.filter_append, h]
  simp [he]
theorem app_out9 {w wr w' : World} {v : Value} {gu : Nat} {o : Obj} (hb : Below w.heap.size w wr) (hv : ∀ b, v.ownBlock = some b → w.heap.size ≤ b) (hg : (wr.alloc o).grownBy w' v.ownBlock) (hat : v.ownBlock = some gu ∨ (wr.alloc o).heap.size ≤ gu) : Below w.heap.size w w' ∧ w.heap.size ≤ gu := by
  have h1 := balloc hb o
  refine ⟨⟨hg.os.trans h1.os, hg.tape.trans h1.tape, hg.output.trans h1.output, Nat.le_trans h1.size hg.size, fun k hk => (hg.block k (Nat.lt_of_lt_of_le hk h1.size) (fun e => ?_)).trans (h1.block k hk)⟩, ?_⟩
  · have := hv k e.symm; omega
  · rcases hat with e | e
    · exact hv gu e
    · have := h1.size; omega
def chT (L : FT) (x : Int) : List Int := (L.filter (fun p => p.2 == x)).map Prod.fst
theorem chT_yes {L : FT} {k : Nat} {m : Int × Int} {x : Int} (h : L[k]? = some m) (he : m.2 = x) : chT (L.take (k + 1)) x = chT (L.take k) x ++ [m.1] := by
  unfold chT
  rw [List.take_add_one, List.filter_append, h]
  simp [he]
theorem chT_no {L : FT} {k : Nat} {m : Int × Int} {x : Int} (h : L[k]? = some m) (he : m.2 ≠ x) : chT (L.take (k + 1)) x = chT (L.take k) x := by
  unfold chT
  rw [List.take_add_one, List.filter_append, h]
  simp [he]
theorem chT_len (L : FT) (x : Int) : (chT L x).length ≤ L.length := by
  unfold chT
  rw [List.length_map]
  exact List.length_filter_le _ _
theorem lres_aw {w : World} {F : Nat → Prop} {a : Option Addr} {n : Nat} (hF : ∀ b, F b → b < w.heap.size) (h : n = 0 ∨ ∀ ad, a = some ad → w.heap.size ≤ ad.block) : Aw F a n := by
  rcases h with h | h
  · exact Or.inl h
  · exact Or.inr (fun ad e c => by have h1 := h ad e; have h2 := hF _ c; omega)
structure Nd where
  id : Int
  par : Int
  pl : Nat → Int
  hid : Bool
instance : Inhabited Nd := ⟨⟨0, 0, fun _ => 0, false⟩⟩
structure Stt where
  id : Int
  wo : Nat → Int
  sh : Bool
instance : Inhabited Stt := ⟨⟨0, fun _ => 0, false⟩⟩
def elF {α : Type} (f : α → Int) (L : List α) (x : Int) : Option α := L.find? (fun n => f n == x)
def hangs (L : List Nd) (x : Int) : Int := match elF Nd.id L x with
  | none => -1
  | some n => if n.par < 0 ∨ (elF Nd.id L n.par).isNone = true then -1 else n.par
structure FD where
  L : List Nd
  dirty : List Int
  begun : Bool
  sts : List Stt
  steps : Nat
def namesN (L : List Nd) : List Int := sortI (L.map Nd.id)
def treesN (L : List Nd) : FT := L.filterMap (fun n => if 0 ≤ hangs L n.id then some (n.id, hangs L n.id) else none)
def dirtyN (D : FD) : List Int := if D.begun then D.dirty.filter (fun x => decide (x ∈ namesN D.L)) else namesN D.L
def touchN (D : FD) : List Int := undL (treesN D.L) (dirtyN D)
structure Acc where
  out : List Stt
  least : Int
  e : Int
section
variable {α : Type} {f : α → Int} {L : List α} {x : Int} {n : α}
end
end Go.Proofs.YtkondkajpmafkaaGreat
