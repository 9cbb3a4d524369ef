/-
  3 texts in one file, each with its own heading.
-/
import Derived.Test.YtjcibffhlhdjeaaMU07
import Derived.Test.YtjcibffhlhdjeaaMU03
import Derived.Deep.OwnRows
import Derived.Test.YtjcibffhlhdjeaaMU04
import Derived.Deep.MidRow
import Derived.Deep.Cut
import Derived.Deep.CutRange
/-
  Sorting that keeps the order of equals, as plain lists: what stands where, what is told of each key; swaps.
-/
namespace Go.Proofs.Ytjcibffhlhdjeaa
open Go.RowKit

section
variable {α : Type}
end

section
variable {α : Type} (key : α → Int)
def Fil (L M : List α) : Prop := ∀ k, M.filter (fun x => key x == k) = L.filter (fun x => key x == k)
def Asc (L : List α) : Prop := L.Pairwise (fun a b => key a ≤ key b)
variable {key}
def AscIn (key : α → Int) (X : List α) (lo hi : Nat) : Prop := ∀ (i j : Nat) (a b : α), lo ≤ i → i < j → j < hi → X[i]? = some a → X[j]? = some b → key a ≤ key b
structure SStep (key : α → Int) (X Y : List α) (lo hi : Nat) : Prop where
  len : Y.length = X.length
  fil : Fil key X Y
  out : ∀ i, i < lo ∨ hi ≤ i → Y[i]? = X[i]?
end
def upd {α : Type} (f : Nat → α) (k : Nat) (v : α) (j : Nat) : α := if j = k then v else f j
section
variable {w : World} {g : Nat} {t : TypeId} {R : Int} {G : Nat → Int} {L : Nat → Bool} {k : Nat}
end
theorem grown_set (w : World) (g i : Nat) (u : Value) : w.grownBy (w.setCell ⟨g, i, none⟩ u) (some g) := by
  have hb := (Below.refl 0 w).setCell (p := ⟨g, i, none⟩) (Nat.zero_le _) u
  exact ⟨hb.os, hb.tape, hb.output, hb.size, fun k _ hne => Below.heap_setCell _ _ _ _ (fun e => hne (by rw [e]))⟩
theorem grown_trans {a b c : World} {r : Option Nat} (h : a.grownBy b r) (k : b.grownBy c r) : a.grownBy c r :=
  ⟨k.os.trans h.os, k.tape.trans h.tape, k.output.trans h.output, Nat.le_trans h.size k.size, fun i hi hn => (k.block i (Nat.lt_of_lt_of_le hi h.size) hn).trans (h.block i hi hn)⟩
def idOk (x : Int) : Bool := decide (0 ≤ x) && decide (x < 16777216)
def liveB (G : Nat → Int) (L : Nat → Bool) (x : Int) : Bool := idOk x && (L (x % 256).toNat && decide (G (x % 256).toNat = x / 256))
def freeB (G : Nat → Int) (L : Nat → Bool) (i : Nat) : Bool := !L i && decide (G i ≤ 65535)
def tkI (G : Nat → Int) (L : Nat → Bool) (R : Nat) : Option Nat := (List.range R).find? (freeB G L)
def tkL (G : Nat → Int) (L : Nat → Bool) (R : Nat) : Nat → Bool := match tkI G L R with | some i => upd L i true | none => L
def drL (G : Nat → Int) (L : Nat → Bool) (x : Int) : Nat → Bool := if liveB G L x then upd L (x % 256).toNat false else L
def drG (G : Nat → Int) (L : Nat → Bool) (x : Int) : Nat → Int := if liveB G L x then upd G (x % 256).toNat (G (x % 256).toNat + 1) else G

structure Rc where
  id : Int
  ms : Int
  pp : Int
  mt : Int
  cl : Bool
  ly : Int
  x0 : Int
  x1 : Int
  x2 : Int
  x3 : Int
  x4 : Int
  x5 : Int
def cRc (r : Rc) : List Value := [.int .i64 r.id, .int .i64 r.ms, .int .i64 r.pp, .int .i64 r.mt, .bool r.cl, .int .i64 r.ly, .int .i64 r.x0, .int .i64 r.x1, .int .i64 r.x2, .int .i64 r.x3, .int .i64 r.x4, .int .i64 r.x5]
def zRc : Rc := ⟨0, 0, 0, 0, false, 0, 0, 0, 0, 0, 0, 0⟩
theorem cRc_len (r : Rc) : (cRc r).length = 12 := rfl
theorem cRc_one (r : Rc) : ∀ u ∈ cRc r, u.oneCell' = true := fun u hu => by
  unfold cRc at hu
  simp only [List.mem_cons, List.not_mem_nil, or_false] at hu
  rcases hu with h | h | h | h | h | h | h | h | h | h | h | h <;> (rw [h]; rfl)
section
variable {α : Type} {k : Nat} {c : α → List Value} {t : TypeId} {w w' : World} {g : Nat} {X : List α}
theorem grown_cells : ∀ (vs : List Value) (w : World) (g o : Nat), w.grownBy (w.setCells g o vs) (some g)
  | [], _, _, _ => ⟨rfl, rfl, rfl, Nat.le_refl _, fun _ _ _ => rfl⟩
  | v :: vs, w, g, o => grown_trans (grown_set w g o v) (grown_cells vs (w.setCell ⟨g, o, none⟩ v) g (o + 1))
end
end Go.Proofs.Ytjcibffhlhdjeaa
