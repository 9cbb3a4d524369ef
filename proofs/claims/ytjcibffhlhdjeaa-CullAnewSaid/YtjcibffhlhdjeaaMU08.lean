/-
  4 texts in one file, each with its own heading.
-/
import Derived.Test.YtjcibffhlhdjeaaMU07
import Derived.Test.YtjcibffhlhdjeaaMU03
import Derived.Deep.OwnRows
import Derived.Deep.QuietTactic
import Derived.Maps.AppendAt
import Derived.Test.YtjcibffhlhdjeaaMU04
import Derived.Deep.MidRow
import Derived.Deep.Cut
import Derived.Deep.CutRange
/-
  Sorting that keeps the order of equals, as plain lists: what stands where, what is told of each key; swaps.
-/
namespace Go.Proofs.Ytjcibffhlhdjeaa
open Go.RowKit

section
variable {α : Type}
end

section
variable {α : Type} (key : α → Int)
def Fil (L M : List α) : Prop := ∀ k, M.filter (fun x => key x == k) = L.filter (fun x => key x == k)
def Asc (L : List α) : Prop := L.Pairwise (fun a b => key a ≤ key b)
variable {key}
def AscIn (key : α → Int) (X : List α) (lo hi : Nat) : Prop := ∀ (i j : Nat) (a b : α), lo ≤ i → i < j → j < hi → X[i]? = some a → X[j]? = some b → key a ≤ key b
structure SStep (key : α → Int) (X Y : List α) (lo hi : Nat) : Prop where
  len : Y.length = X.length
  fil : Fil key X Y
  out : ∀ i, i < lo ∨ hi ≤ i → Y[i]? = X[i]?
end
def upd {α : Type} (f : Nat → α) (k : Nat) (v : α) (j : Nat) : α := if j = k then v else f j
section
variable {w : World} {g : Nat} {t : TypeId} {R : Int} {G : Nat → Int} {L : Nat → Bool} {k : Nat}
end
theorem grown_set (w : World) (g i : Nat) (u : Value) : w.grownBy (w.setCell ⟨g, i, none⟩ u) (some g) := by
  have hb := (Below.refl 0 w).setCell (p := ⟨g, i, none⟩) (Nat.zero_le _) u
  exact ⟨hb.os, hb.tape, hb.output, hb.size, fun k _ hne => Below.heap_setCell _ _ _ _ (fun e => hne (by rw [e]))⟩
theorem grown_trans {a b c : World} {r : Option Nat} (h : a.grownBy b r) (k : b.grownBy c r) : a.grownBy c r :=
  ⟨k.os.trans h.os, k.tape.trans h.tape, k.output.trans h.output, Nat.le_trans h.size k.size, fun i hi hn => (k.block i (Nat.lt_of_lt_of_le hi h.size) hn).trans (h.block i hi hn)⟩
def idOk (x : Int) : Bool := decide (0 ≤ x) && decide (x < 16777216)
def liveB (G : Nat → Int) (L : Nat → Bool) (x : Int) : Bool := idOk x && (L (x % 256).toNat && decide (G (x % 256).toNat = x / 256))
def freeB (G : Nat → Int) (L : Nat → Bool) (i : Nat) : Bool := !L i && decide (G i ≤ 65535)
def tkI (G : Nat → Int) (L : Nat → Bool) (R : Nat) : Option Nat := (List.range R).find? (freeB G L)
def tkL (G : Nat → Int) (L : Nat → Bool) (R : Nat) : Nat → Bool := match tkI G L R with | some i => upd L i true | none => L
def drL (G : Nat → Int) (L : Nat → Bool) (x : Int) : Nat → Bool := if liveB G L x then upd L (x % 256).toNat false else L
def drG (G : Nat → Int) (L : Nat → Bool) (x : Int) : Nat → Int := if liveB G L x then upd G (x % 256).toNat (G (x % 256).toNat + 1) else G

def OwnD (w : World) (base : Nat) (v : Value) (n : Nat) (zs : List Int) : Prop := w.ownsRow base 46 1 v n (zs.map (Value.int .i64))
theorem id_info : (Try.prog.info? 46).map (fun i => (i.zero, i.size, i.bytes)) = some (some (.int .i64 0), 1, 8) := by kernel_rfl
theorem OwnD.nil (w : World) (base : Nat) : OwnD w base (.slice none 0 0) 0 [] := World.ownsRow_nil _ _ _ _
theorem OwnD.row {w : World} {base : Nat} {v : Value} {n : Nat} {zs : List Int} (h : OwnD w base v n zs) : ∃ a cap, v = .slice a n cap ∧ Row w a n zs := by
  have hl : zs.length = n := by simpa using h.1
  rcases h.2 with ⟨rfl, rfl⟩ | ⟨g, cap, cur, rfl, hb, hh, hnc, hm, hs, ht⟩
  · exact ⟨none, 0, rfl, hl, by omega, Or.inl rfl⟩
  · unfold maxLen at hm
    refine ⟨_, cap, rfl, hl, by omega, Or.inr ⟨g, 0, rfl, fun i hi => ?_⟩⟩
    rw [Nat.zero_add]
    have hi' : i < (zs.map (Value.int .i64)).length := by rw [List.length_map]; omega
    have hc := World.ownsRow.cellAt (j := i) h (by omega)
    rw [hc]
    simp [List.getD, List.getElem?_eq_getElem (show i < zs.length by omega)]
theorem grownD_below {w0 wr w' : World} {base B : Nat} {v : Value} {n : Nat} {zs : List Int} {o : Obj} (ho : OwnD wr base v n zs) (hB : B ≤ base) (hb : Below B w0 wr) (hs : B ≤ wr.heap.size) (hg : (wr.alloc o).grownBy w' v.ownBlock) : Below B w0 w' :=
  (hb.alloc hs o).grown hg (by simp; omega) (fun k hk => by have := World.ownsRow.lt ho k hk; omega)

theorem row_at {w : World} {a : Option Addr} {len : Nat} {zs : List Int} (h : Row w a len zs) {k : Nat} (hk : k < len) : ∃ b off x, a = some ⟨b, off, none⟩ ∧ zs[k]? = some x ∧ w.cell? ⟨b, off + k, none⟩ = some (.int .i64 x) := by
  obtain ⟨h1, h2, h3⟩ := h
  rcases h3 with h3 | ⟨b, off, rfl, hc⟩
  · omega
  · have hk' : k < zs.length := by omega
    have c := hc k hk
    rw [show zs.getD k 0 = zs[k] by simp [List.getD, List.getElem?_eq_getElem hk']] at c
    exact ⟨b, off, _, rfl, List.getElem?_eq_getElem hk', c⟩

set_option maxHeartbeats 1000000 in
theorem plhas_any (a : Option Addr) (len cap : Nat) (zs : List Int) (x : Int) (w : World) (row : Row w a len zs) :
    Calls Try.prog 46 #[.slice a len cap, .int .i64 x] w fun e w' => e = .returned (.bool (decide (x ∈ zs))) ∧ w = w' := by
  have HL := Lib.hid row.1
  have hbig := row.2.1
  have HRow := Lib.hid row
  clear row
  go_enter Try.func46, Try.ntmps46
  go_wp2
  go_loopw [5] (fun i wr => ∃ k : Nat, k ≤ len ∧ i = .int .i64 k ∧ (x ∉ zs.take k) ∧ wr = w) (fun i _ => len - (intOf i).toNat)
  case atStart => exact ⟨0, by omega, rfl, by simp, rfl⟩
  case round =>
    obtain ⟨k, hk, rfl, hz, rfl⟩ := hrel
    have HZ := Lib.hid hz
    clear hz
    by_cases hlt : k < len
    · obtain ⟨b, off, y, rfl, hv, c0⟩ := row_at HRow.out hlt
      have HV := Lib.hid hv
      clear hv
      have hk0 : (0 : Int) ≤ (k : Int) := by omega
      have hk1 : (k : Int) < (len : Int) := by omega
      by_cases he : y = x
      · have ge : (y == x) = true := by rw [he]; simp
        have HE := Lib.hid he
        clear he
        go_wp2
        go_ret
        exact ⟨by rw [show decide (x ∈ zs) = true by rw [← HE.out]; simpa using List.mem_of_getElem? HV.out]; rfl, rfl⟩
      · have ge : (y == x) = false := by simpa using he
        have HE := Lib.hid (show x ∉ zs.take (k + 1) by
          rw [List.take_add_one, HV.out]
          simp only [Option.toList_some, List.mem_append, List.mem_singleton, not_or]
          exact ⟨HZ.out, fun e => he e.symm⟩)
        clear he
        go_wp2
        go_roundw
        case rel => exact ⟨k + 1, by omega, by go_num, HE.out, by trivial⟩
        case measure => simp [intOf] <;> omega
    · obtain rfl : k = len := by omega
      have e1 := HZ.out
      rw [List.take_of_length_le (by rw [HL.out]; exact Nat.le_refl _)] at e1
      have HE := Lib.hid e1
      clear e1
      go_wp2
      go_ret
      exact ⟨by rw [show decide (x ∈ zs) = false by simpa using HE.out]; rfl, rfl⟩

structure Rc where
  id : Int
  ms : Int
  pp : Int
  mt : Int
  cl : Bool
  ly : Int
  x0 : Int
  x1 : Int
  x2 : Int
  x3 : Int
  x4 : Int
  x5 : Int
def cRc (r : Rc) : List Value := [.int .i64 r.id, .int .i64 r.ms, .int .i64 r.pp, .int .i64 r.mt, .bool r.cl, .int .i64 r.ly, .int .i64 r.x0, .int .i64 r.x1, .int .i64 r.x2, .int .i64 r.x3, .int .i64 r.x4, .int .i64 r.x5]
def zRc : Rc := ⟨0, 0, 0, 0, false, 0, 0, 0, 0, 0, 0, 0⟩
theorem cRc_len (r : Rc) : (cRc r).length = 12 := rfl
theorem cRc_one (r : Rc) : ∀ u ∈ cRc r, u.oneCell' = true := fun u hu => by
  unfold cRc at hu
  simp only [List.mem_cons, List.not_mem_nil, or_false] at hu
  rcases hu with h | h | h | h | h | h | h | h | h | h | h | h <;> (rw [h]; rfl)
section
variable {α : Type} {k : Nat} {c : α → List Value} {t : TypeId} {w w' : World} {g : Nat} {X : List α}
theorem grown_cells : ∀ (vs : List Value) (w : World) (g o : Nat), w.grownBy (w.setCells g o vs) (some g)
  | [], _, _, _ => ⟨rfl, rfl, rfl, Nat.le_refl _, fun _ _ _ => rfl⟩
  | v :: vs, w, g, o => grown_trans (grown_set w g o v) (grown_cells vs (w.setCell ⟨g, o, none⟩ v) g (o + 1))
end
end Go.Proofs.Ytjcibffhlhdjeaa
