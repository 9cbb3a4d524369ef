/-
  6 texts in one file, each with its own heading.
-/
import Derived.Test.YtjcibffhlhdjeaaMU06
import Derived.Test.YtjcibffhlhdjeaaMU04
import Derived.Maps.AppendAt
/-
  With and Without, bit by bit: plain arithmetic of parts.
-/
namespace Go.Proofs.Ytjcibffhlhdjeaa
open Go.RowKit

def r6 : PT := (0, zI, 0, zI, 1, 0, false, 0)
end Go.Proofs.Ytjcibffhlhdjeaa
namespace Go.Proofs.Ytjcibffhlhdjeaa
open Go.ChangeShapes Go.WideShapes Go.ChangeAt Go.RowKit Go.Deep

section
variable {H : Type} {enc : TypeId × Value → H} {w : World} {base : Nat} {spare : Nat → Bool} {held : Bool}

theorem piece1 {cs : List Value} {o : Nat} {v : Value} (h : (cs.drop o).take 1 = [v]) : cs[o]? = some v := take1_at h
end
end Go.Proofs.Ytjcibffhlhdjeaa
namespace Go.Proofs.Ytjcibffhlhdjeaa
open Go.RowKit

abbrev TR := List (Int × PT)
def d0 : Int × PT := (0, zT)
def fitsB (s : Int) (P : PT) : Bool := rightT P && (P.1 == s)
def Fr (w w' : World) (L : Nat → Prop) : Prop := w'.os = w.os ∧ w'.tape = w.tape ∧ w'.output = w.output ∧ w.heap.size ≤ w'.heap.size ∧ ∀ b, b < w.heap.size → ¬ L b → w'.heap[b]? = w.heap[b]?

theorem Fr.below {B : Nat} {w0 w w' : World} {L : Nat → Prop} (h : Fr w w' L) (hb : Below B w0 w) (hL : ∀ b, L b → B ≤ b) (hs : B ≤ w.heap.size) : Below B w0 w' :=
  ⟨h.1.trans hb.os, h.2.1.trans hb.tape, h.2.2.1.trans hb.output, Nat.le_trans hb.size h.2.2.2.1, fun k hk => (h.2.2.2.2 k (by omega) (fun c => by have := hL k c; omega)).trans (hb.block k hk)⟩

theorem range_same {w w' : World} {b o : Nat} {cs : List Value} (h : w.rangeAt b o cs) (e : w'.heap[b]? = w.heap[b]?) : w'.rangeAt b o cs := fun j v hv => by
  have := h j v hv
  simp only [World.cell?] at this ⊢
  rw [e]
  exact this
abbrev AT := Int × Int × PT × Int
def a0 : AT := (0, 0, zT, 0)
def ivl : Value → Int
  | .int _ q => q
  | _ => 0
def RowX {α : Type} (k : Nat) (c : α → List Value) (w : World) (a : Option Addr) (n : Nat) (X : List α) : Prop := X.length = n ∧ n ≤ 9223372036854775807 ∧ (n = 0 ∨ ∃ b off, a = some ⟨b, off, none⟩ ∧ b < w.heap.size ∧ ∀ i x, X[i]? = some x → w.rangeAt b (off + i * k) (c x))
section
variable {α : Type} {k : Nat} {c : α → List Value} {w w' : World} {a : Option Addr} {n : Nat} {X : List α}
theorem RowX.keep (h : RowX k c w a n X) (hb : Below w.heap.size w w') : RowX k c w' a n X := ⟨h.1, h.2.1, h.2.2.imp id (fun ⟨b, o, e, hl, hr⟩ => ⟨b, o, e, Nat.lt_of_lt_of_le hl hb.size, fun i x hx => range_same (hr i x hx) (hb.block b hl)⟩)⟩
theorem RowX.at_ (h : RowX k c w a n X) {i : Nat} (hi : i < n) : ∃ b off x, a = some ⟨b, off, none⟩ ∧ b < w.heap.size ∧ X[i]? = some x ∧ w.rangeAt b (off + i * k) (c x) := by
  obtain ⟨h1, h2, h3⟩ := h
  rcases h3 with h3 | ⟨b, off, e, hb, hr⟩
  · omega
  · have hx : X[i]? = some (X[i]'(by omega)) := List.getElem?_eq_getElem (by omega)
    exact ⟨b, off, _, e, hb, hx, hr i _ hx⟩
end
def OwnX {α : Type} (k : Nat) (c : α → List Value) (t : TypeId) (w : World) (base : Nat) (v : Value) (X : List α) : Prop := w.ownsRow base t k v X.length (X.flatMap c)
section
variable {α : Type} {k : Nat} {c : α → List Value} {t : TypeId} {w w' : World} {base : Nat} {v : Value} {X : List α}
theorem flatx_len (hc : ∀ x, (c x).length = k) : ∀ X : List α, (X.flatMap c).length = X.length * k
  | [] => by simp
  | x :: X => by
    rw [List.flatMap_cons, List.length_append, hc, flatx_len hc X, List.length_cons, Nat.add_mul]
    omega
theorem flatx_at (hc : ∀ x, (c x).length = k) : ∀ (X : List α) (i : Nat) (x : α), X[i]? = some x → ((X.flatMap c).drop (i * k)).take k = c x
  | [], i, x, h => by simp at h
  | a :: X, 0, x, h => by
    simp at h
    subst h
    rw [List.flatMap_cons, Nat.zero_mul, List.drop_zero, ← hc a, List.take_left]
  | a :: X, i + 1, x, h => by
    have ih := flatx_at hc X i x (by simpa using h)
    rw [List.flatMap_cons, List.drop_append, hc a, List.drop_of_length_le (by rw [hc a, Nat.add_mul]; omega), List.nil_append, show (i + 1) * k - k = i * k by rw [Nat.add_mul]; omega]
    exact ih
theorem OwnX.nil (k : Nat) (c : α → List Value) (t : TypeId) (w : World) (base : Nat) : OwnX k c t w base (.slice none 0 0) [] := World.ownsRow_nil _ _ _ _
theorem OwnX.lt (h : OwnX k c t w base v X) : ∀ b, v.ownBlock = some b → base ≤ b ∧ b < w.heap.size := World.ownsRow.lt h
theorem OwnX.same (h : OwnX k c t w base v X) (he : ∀ b, v.ownBlock = some b → w'.heap[b]? = w.heap[b]?) : OwnX k c t w' base v X :=
  ⟨h.1, h.2.imp id fun ⟨g, cap, cur, e, hb, hg, hr⟩ => ⟨g, cap, cur, e, hb, (he g (by rw [e]; rfl)).trans hg, hr⟩⟩
theorem OwnX.keep (h : OwnX k c t w base v X) (hb : Below w.heap.size w w') : OwnX k c t w' base v X := h.same (fun b e => hb.block b (h.lt b e).2)
theorem OwnX.low (h : OwnX k c t w base v X) {b' : Nat} (hb : b' ≤ base) : OwnX k c t w b' v X := ⟨h.1, h.2.imp id fun ⟨g, cap, cur, h1, h2, h3⟩ => ⟨g, cap, cur, h1, Nat.le_trans hb h2, h3⟩⟩
theorem OwnX.row (hc : ∀ x, (c x).length = k) (h : OwnX k c t w base v X) : ∃ a cap, v = .slice a X.length cap ∧ X.length ≤ cap ∧ cap ≤ maxLen ∧ RowX k c w a X.length X := by
  rcases h.2 with ⟨rfl, h0⟩ | ⟨g, cap, cur, rfl, hb, hg, hn, hm, hs, ht⟩
  · exact ⟨none, 0, by rw [h0], by omega, by unfold maxLen; omega, rfl, by omega, Or.inl h0⟩
  · refine ⟨_, cap, rfl, hn, hm, rfl, by unfold maxLen at hm; omega, Or.inr ⟨g, 0, rfl, (Array.getElem?_eq_some_iff.1 hg).1, fun i x hx => ?_⟩⟩
    have hlt : i < X.length := (List.getElem?_eq_some_iff.1 hx).1
    have hbk : Blk w g t cur.toList.toArray := by unfold Blk; rw [Array.toArray_toList]; exact hg
    have h1 := blk_range hbk (i * k) k
    have e : (cur.toList.drop (i * k)).take k = c x := by
      have h2 : (i + 1) * k ≤ X.length * k := Nat.mul_le_mul_right _ hlt
      rw [Nat.add_mul] at h2
      rw [← flatx_at hc X i x hx, ← ht, List.drop_take, List.take_take, Nat.min_eq_left (by omega)]
    rw [e] at h1
    rw [Nat.zero_add]
    exact h1
theorem wpList_pushX {ops : Array Oper} {rest : List Oper} {op : Oper} {a : Go.Act} {Q : Exit → Go.Act → World → Prop} (hgd : op.guard = none) (ts tb : Operand) (tl : TypeId) (by_ : Nat) (z : Value)
    (ho : op.op = .call { callee := .builtin .append, args := #[ts, tb], argTypes := #[tl, tl] }) (hu : Try.prog.underlying tl = some (.slice t))
    (hinfo : (Try.prog.info? t).map (fun i => (i.zero, i.size, i.bytes)) = some (some z, k, by_)) (hzs : z.cells.size = k) (hk : 0 < k) (hby : by_ ≤ 1000) (hc : ∀ x, (c x).length = k) (x : α) (hone : ∀ u ∈ c x, u.oneCell' = true)
    (hs : a.eval ts = v) (hown : OwnX k c t w base v X) (gb : Nat) (cap : Nat) (hx : a.eval tb = .slice (some ⟨gb, 0, none⟩) 1 cap) (hb : w.rangeAt gb 0 (c x)) (hX : X.length ≤ 2000) (hbs : base ≤ w.heap.size)
    (h : ∀ v' w', OwnX k c t w' base v' (X ++ [x]) → w.grownBy w' v.ownBlock → (v'.ownBlock = v.ownBlock ∨ v'.ownBlock = some w.heap.size) → wpList Try.prog ops Q rest (a.put op.dst v') w') : wpList Try.prog ops Q (op :: rest) a w := by
  obtain ⟨i0, hi0, hz0, hz1, hz2⟩ := info_parts hinfo
  have hbytes : (X.length + 1) * by_ ≤ 140737488355328 := by
    have : (X.length + 1) * by_ ≤ 2001 * 1000 := Nat.mul_le_mul (by omega) hby
    omega
  refine wpList_append_own_at w hgd ts tb tl ho base t i0 z k by_ hu hi0 hz0 hz1 hz2 hzs hk v X.length (X.flatMap c) hs hown ⟨gb, 0, none⟩ 1 cap (c x) hx (by rw [hc x, Nat.one_mul]) (fun j u hj => by
    have := hb j u hj
    rw [Addr.add_lit]
    exact this) hone (by unfold maxLen; omega) hbytes hbs ?_
  intro v' w' h1 h2 _ h4
  refine h v' w' ?_ h2 h4
  unfold OwnX
  rw [List.length_append, List.flatMap_append]
  simpa using h1
end
end Go.Proofs.Ytjcibffhlhdjeaa
