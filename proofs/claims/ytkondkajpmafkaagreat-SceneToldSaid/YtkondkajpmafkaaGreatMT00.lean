/-
  12 texts in one file, each with its own heading.
-/
import Derived.Test.YtkondkajpmafkaaGreatRows
import Derived.WalkKit
import Derived.WalkSpells
import Derived.WalkLawsBesides
import Derived.BigQuiet
import Derived.Lib.Hide
import Derived.Deep.RegionHeld3
import Derived.Deep.MidRow
import Derived.Below
import Derived.OpenShut
import Derived.LoopN
import Derived.Laws.OwnMore
import Derived.Deep.Draws
import Derived.Laws.Rows
import Derived.Deep.OwnRows
/-
  What the leaves of package fix, and of its reference, answer: each returns what its plain Lean function says, and leaves all memory that was there as it was.
-/
namespace Go.Proofs.YtkondkajpmafkaaGreat
open Go.RowKit

def okB (x : Int) : Bool := decide (-2147483648 ≤ x ∧ x ≤ 2147483647)
def rightB (zs : List Int) : Bool := zs.all okB

def Row (w : World) (a : Option Addr) (len : Nat) (zs : List Int) : Prop :=
  zs.length = len ∧ len ≤ 9223372036854775807 ∧ (len = 0 ∨ ∃ b off, a = some ⟨b, off, none⟩ ∧ ∀ i, i < len → w.cell? ⟨b, off + i, none⟩ = some (.int .i64 (zs.getD i 0)))

theorem rightB_take_succ (zs : List Int) (k : Nat) (h : k < zs.length) : rightB (zs.take (k + 1)) = (rightB (zs.take k) && okB (zs.getD k 0)) := by
  unfold rightB
  rw [List.take_add_one, List.all_append]
  simp [List.getD, List.getElem?_eq_getElem h]

theorem rightB_bad (zs : List Int) (k : Nat) (h : k < zs.length) (hb : okB (zs.getD k 0) = false) : rightB zs = false := by
  unfold rightB
  rw [List.all_eq_false]
  refine ⟨zs.getD k 0, ?_, by rw [hb]; decide⟩
  simp only [List.getD, List.getElem?_eq_getElem h, Option.getD_some]
  exact List.getElem_mem h

theorem ret_bool {a b : Bool} (h : a = b) : Ending.returned (.bool a) = .returned (.bool b) := by rw [h]
theorem ret_int {k : IntKind} {a b : Int} (h : a = b) : Ending.returned (.int k a) = .returned (.int k b) := by rw [h]
theorem okB_lo {x : Int} (h : x < -2147483648) : okB x = false := by unfold okB; rw [decide_eq_false_iff_not]; omega
theorem okB_hi {x : Int} (h : 2147483647 < x) : okB x = false := by unfold okB; rw [decide_eq_false_iff_not]; omega
theorem okB_yes {x : Int} (h : -2147483648 ≤ x) (h2 : x ≤ 2147483647) : okB x = true := by unfold okB; rw [decide_eq_true_iff]; omega
set_option maxHeartbeats 400000 in
theorem right_empty (a : Option Addr) (cap : Nat) (w : World) :
    Calls Tryz.prog 180 #[.slice a 0 cap] w fun e w' => e = .returned (.bool true) ∧ w = w' := by
  go_enter Tryz.func180, Tryz.ntmps180
  go_wp2
  go_loop [7] (fun i => i = .int .i64 0) (fun _ => 0)
  case atStart => rfl
  case round =>
    obtain rfl := hrel
    go_wp2
    go_ret
    exact ⟨rfl, rfl⟩

set_option maxHeartbeats 400000 in
theorem right_row (b off len cap : Nat) (zs : List Int) (w : World) (hl : zs.length = len) (hbig : len ≤ 9223372036854775807) (hc : ∀ j, j < len → w.cell? ⟨b, off + j, none⟩ = some (.int .i64 (zs.getD j 0))) :
    Calls Tryz.prog 180 #[.slice (some ⟨b, off, none⟩) len cap] w fun e w' => e = .returned (.bool (rightB zs)) ∧ w = w' := by
  have HL := Lib.hid hl
  have HC := Lib.hid hc
  clear hl hc
  go_enter Tryz.func180, Tryz.ntmps180
  go_wp2
  go_loop [7] (fun i => ∃ k : Nat, k ≤ len ∧ i = .int .i64 k ∧ rightB (zs.take k) = true) (fun i => len - (intOf i).toNat)
  case atStart => exact ⟨0, Nat.zero_le _, rfl, rfl⟩
  case round =>
    obtain ⟨k, hk, rfl, hr⟩ := hrel
    have HR := Lib.hid hr
    clear hr
    by_cases hlt : k < len
    · have hk' : k < zs.length := by rw [HL.out]; exact hlt
      obtain ⟨x, hx⟩ : ∃ x, x = zs.getD k 0 := ⟨_, rfl⟩
      have hcell := HC.out k hlt
      have H1 := Lib.hid (rightB_take_succ zs k hk')
      have H2 := Lib.hid (rightB_bad zs k hk')
      rw [← hx] at hcell
      rw [← hx] at H1 H2
      clear hx hk'
      by_cases hlo : x < -2147483648
      · go_wp2
        go_ret
        exact ⟨ret_bool (H2.out (okB_lo hlo)).symm, rfl⟩
      · by_cases hhi : 2147483647 < x
        · go_wp2
          go_ret
          exact ⟨ret_bool (H2.out (okB_hi hhi)).symm, rfl⟩
        · go_wp2
          go_round
          case rel => exact ⟨k + 1, by omega, by go_num, by rw [H1.out, HR.out, okB_yes (by omega) (by omega)]; rfl⟩
          case measure => simp [intOf]; omega
    · go_wp2
      go_ret
      have e : zs.take k = zs := List.take_of_length_le (by rw [HL.out]; omega)
      exact ⟨ret_bool (by rw [← HR.out, e]), rfl⟩

theorem right_any (a : Option Addr) (len cap : Nat) (zs : List Int) (w : World) (h : Row w a len zs) :
    Calls Tryz.prog 180 #[.slice a len cap] w fun e w' => e = .returned (.bool (rightB zs)) ∧ w = w' := by
  obtain ⟨hl, hm, h0 | ⟨b, off, rfl, hc⟩⟩ := h
  · subst h0
    obtain rfl := List.eq_nil_of_length_eq_zero hl
    exact right_empty a cap w
  · exact right_row b off len cap zs w hl hm hc

theorem tk {P : Program} {ops : Array Oper} {md : Region.Mode} {Q : Exit → Go.Act → World → Prop} {S : World → Prop} (i : Nat) {oi : Oper} {v : Value} {fuel : Nat} {l : Array Bool} {a a' : Go.Act} {w : World} (hS : S w) (h : wpAnyH P md ops Q S fuel (l.setIfInBounds i true) a' w)
    (hi : ops[i]? = some oi := by rfl) (hs : Region.noSelect ops = true := by kernel_rfl) (hf : Region.free md ops l i = true := by kernel_rfl) (hr : (Region.ready md ops l).contains i = true := by kernel_rfl) (hw : Region.wanted oi (yielded ops a.tmps) = true := by rfl)
    (hy : ∀ w, S w → (execOp a.eval oi).run P w = .ok (.value v) w := by (intro w hSw; (try dsimp only at hSw); go_split_ands; go_simp; with_reducible rfl))
    (ha : a.put oi.dst v = a' := by (simp only [Go.Act.put, List.getElem_toArray, List.getElem_cons_zero, List.getElem_cons_succ, List.setIfInBounds_toArray, List.set_cons_zero, List.set_cons_succ]; try rfl))
    (hQ : ∀ c a w, Q (.panic c) (a.put oi.dst v) w → Q (.panic c) a w := by exact fun _ _ _ h => h) : wpAnyH P md ops Q S (fuel + 1) l a w :=
  wpAnyH_take hi hs hf hr hQ (Or.inl ⟨hw, hy⟩) hS (by rw [ha]; exact h)
theorem tks {P : Program} {ops : Array Oper} {md : Region.Mode} {Q : Exit → Go.Act → World → Prop} {S : World → Prop} (i : Nat) {oi : Oper} {fuel : Nat} {l : Array Bool} {a a' : Go.Act} {w : World} (hS : S w) (h : wpAnyH P md ops Q S fuel (l.setIfInBounds i true) a' w)
    (hi : ops[i]? = some oi := by rfl) (hs : Region.noSelect ops = true := by kernel_rfl) (hf : Region.free md ops l i = true := by kernel_rfl) (hr : (Region.ready md ops l).contains i = true := by kernel_rfl) (hw : Region.wanted oi (yielded ops a.tmps) = false := by rfl)
    (ha : a.put oi.dst undef = a' := by (simp only [Go.Act.put, List.getElem_toArray, List.getElem_cons_zero, List.getElem_cons_succ, List.setIfInBounds_toArray, List.set_cons_zero, List.set_cons_succ]; try rfl))
    (hQ : ∀ c a w, Q (.panic c) (a.put oi.dst undef) w → Q (.panic c) a w := by exact fun _ _ _ h => h) : wpAnyH P md ops Q S (fuel + 1) l a w :=
  wpAnyH_take hi hs hf hr hQ (Or.inr ⟨hw, rfl⟩) hS (by rw [ha]; exact h)
theorem tkl {P : Program} {ops : Array Oper} {md : Region.Mode} {Q : Exit → Go.Act → World → Prop} {S : World → Prop} (i : Nat) {oi : Oper} {v : Value} {fuel : Nat} {l : Array Bool} {a a' : Go.Act} {w : World} (hi : ops[i]? = some oi) (hy : YieldsIf P ops S oi v a) (hS : S w) (h : wpAnyH P md ops Q S fuel (l.setIfInBounds i true) a' w)
    (hs : Region.noSelect ops = true := by kernel_rfl) (hf : Region.free md ops l i = true := by kernel_rfl) (hr : (Region.ready md ops l).contains i = true := by kernel_rfl)
    (ha : a.put oi.dst v = a' := by (simp only [Go.Act.put, List.getElem_toArray, List.getElem_cons_zero, List.getElem_cons_succ, List.setIfInBounds_toArray, List.set_cons_zero, List.set_cons_succ]; try rfl))
    (hQ : ∀ c a w, Q (.panic c) (a.put oi.dst v) w → Q (.panic c) a w := by exact fun _ _ _ h => h) : wpAnyH P md ops Q S (fuel + 1) l a w :=
  wpAnyH_take hi hs hf hr hQ hy hS (by rw [ha]; exact h)
theorem rd {P : Program} {ops : Array Oper} {md : Region.Mode} {Q : Exit → Go.Act → World → Prop} {S : World → Prop} (i : Nat) {o : Oper} {fuel : Nat} {l : Array Bool} {a : Go.Act} {w : World}
    (h : ∀ K' : Go.Act → World → Prop, Shut (∀ a w, S w → (S w → wpAnyH P md ops Q S fuel (l.setIfInBounds i true) a w) → K' a w) → if Region.wanted o (yielded ops a.tmps) = true then Oper.wp P o a w K' Q else K' (a.put o.dst undef) w)
    (ho : ops[i]? = some o := by rfl) (hr : Region.ready md ops l = [i] := by kernel_rfl) : wpAnyH P md ops Q S (fuel + 1) l a w :=
  wpAnyH_ready hr (by simp) (AllReadyH.cons ho h AllReadyH.nil)
theorem row1 (w : World) (x : Int) (t : TypeId) : Row (w.alloc (.cells #[.int .i64 x] t)) (some ⟨w.heap.size, 0, none⟩) 1 [x] := by
  refine ⟨rfl, by omega, Or.inr ⟨_, _, rfl, fun i hi => ?_⟩⟩
  obtain rfl : i = 0 := by omega
  simp [List.getD]

def fitV (x : Int) : Int := if okB x then x else 0
def fitE (x : Int) : Int := if okB x then 0 else 6

theorem alloc_below (w : World) (o : Obj) : Below w.heap.size w (w.alloc o) := (Below.refl _ _).alloc (Nat.le_refl _) o

theorem bthen {w a b : World} (h : Below w.heap.size w a) (k : Below a.heap.size a b) : Below w.heap.size w b := h.trans (k.mono h.size)
theorem balloc {w a : World} (h : Below w.heap.size w a) (o : Obj) : Below w.heap.size w (a.alloc o) := h.alloc h.size o
end Go.Proofs.YtkondkajpmafkaaGreat
namespace Go.Proofs.YtkondkajpmafkaaGreat
set_option linter.unusedVariables false

end Go.Proofs.YtkondkajpmafkaaGreat
namespace Go.Proofs.YtkondkajpmafkaaGreat
open Go.RowKit

def mulV (a b : Int) : Int := if okB a && okB b then fitV (a * b / 65536) else 0
def mulE (a b : Int) : Int := if okB a && okB b then fitE (a * b / 65536) else 1

def addOk (zs : List Int) : Bool := decide (zs.length ≤ 1024) && rightB zs
def addV (zs : List Int) : Int := if addOk zs then fitV zs.sum else 0
def addE (zs : List Int) : Int := if addOk zs then fitE zs.sum else 1

def first3 (a b c : Int) : Int := if a = 0 then (if b = 0 then c else b) else a
def gate (e v : Int) : Int := if e = 0 then v else 0

def Blk (w : World) (g : Nat) (t : TypeId) (cs : Array Value) : Prop := w.heap[g]? = some (.cells cs t (0, 0))

theorem Blk.same {w w' : World} {g : Nat} {t : TypeId} {cs : Array Value} (h : Blk w g t cs) (e : w'.heap[g]? = w.heap[g]?) : Blk w' g t cs := by
  unfold Blk at *
  rw [e, h]
theorem Blk.lt {w : World} {g : Nat} {t : TypeId} {cs : Array Value} (h : Blk w g t cs) : g < w.heap.size := (Array.getElem?_eq_some_iff.1 h).1
theorem Blk.cell {w : World} {g : Nat} {t : TypeId} {cs : Array Value} (h : Blk w g t cs) (i : Nat) : w.cell? ⟨g, i, none⟩ = cs[i]? := by
  unfold Blk at h
  simp [World.cell?, h]
theorem Blk.frozen {w : World} {g : Nat} {t : TypeId} {cs : Array Value} (h : Blk w g t cs) (i : Nat) : w.frozen? ⟨g, i, none⟩ = false := by
  unfold Blk at h
  simp [World.frozen?, h]
theorem Blk.new (w : World) (t : TypeId) (cs : Array Value) : Blk (w.alloc (.cells cs t)) w.heap.size t cs := heap_alloc_new w (.cells cs t)
theorem Blk.keep {w w' : World} {g : Nat} {t : TypeId} {cs : Array Value} (h : Blk w g t cs) (hb : Below w.heap.size w w') : Blk w' g t cs := h.same (hb.block g h.lt)
theorem Blk.alloc {w : World} {g : Nat} {t : TypeId} {cs : Array Value} (h : Blk w g t cs) (o : Obj) : Blk (w.alloc o) g t cs := h.keep (alloc_below w o)
theorem Blk.set_ {w : World} {g : Nat} {t : TypeId} {cs : Array Value} (h : Blk w g t cs) (i : Nat) (u : Value) : Blk (w.setCell ⟨g, i, none⟩ u) g t (cs.setIfInBounds i u) := by
  unfold Blk at *
  simp [World.setCell, Array.getElem?_modify, h]
theorem Blk.far {w : World} {g : Nat} {t : TypeId} {cs : Array Value} (h : Blk w g t cs) {p : Addr} (hp : g ≠ p.block) (u : Value) : Blk (w.setCell p u) g t cs := by
  refine h.same ?_
  simp [World.setCell, Array.getElem?_modify, Ne.symm hp]
theorem blk3 {w : World} {g : Nat} {t : TypeId} {x y z : Value} (h : Blk w g t #[x, y, z]) : w.cell? ⟨g, 0, none⟩ = some x ∧ w.cell? ⟨g, 1, none⟩ = some y ∧ w.cell? ⟨g, 2, none⟩ = some z ∧ w.frozen? ⟨g, 0, none⟩ = false ∧ w.frozen? ⟨g, 1, none⟩ = false ∧ w.frozen? ⟨g, 2, none⟩ = false :=
  ⟨h.cell 0, h.cell 1, h.cell 2, h.frozen 0, h.frozen 1, h.frozen 2⟩

def Enters (F : Nat) : Prop := ∀ args w, (callFunc F args).run Tryz.prog w = .ok (.enter F args) w
theorem blkAt {w : World} {g g' : Nat} {t : TypeId} {cs : Array Value} (h : Blk w g t cs) (e : g = g') : Blk w g' t cs := e ▸ h

abbrev V3 := Int × Int × Int
def ok3 (x y z : Int) : Bool := rightB [x, y, z]
def okV (v : V3) : Bool := ok3 v.1 v.2.1 v.2.2
def rightV (vs : List V3) : Bool := vs.all okV
def zeroV : V3 := (0, 0, 0)

theorem cell_lt {w : World} {x : Addr} {v : Value} (h : w.cell? x = some v) : x.block < w.heap.size := by
  by_cases hb : x.block < w.heap.size
  · exact hb
  · have e : w.heap[x.block]? = none := Array.getElem?_eq_none (by omega)
    simp [World.cell?, e] at h

theorem cell_keep {w w' : World} {x : Addr} {v : Value} (h : w.cell? x = some v) (hb : Below w.heap.size w w') : w'.cell? x = some v := by
  rw [hb.cell (cell_lt h)]; exact h

theorem row_keep {w w' : World} {a : Option Addr} {len : Nat} {zs : List Int} (h : Row w a len zs) (hb : Below w.heap.size w w') : Row w' a len zs := by
  obtain ⟨h1, h2, h3⟩ := h
  refine ⟨h1, h2, ?_⟩
  rcases h3 with h3 | ⟨b, off, e, hc⟩
  · exact Or.inl h3
  · exact Or.inr ⟨b, off, e, fun i hi => cell_keep (hc i hi) hb⟩

def VRow (w : World) (a : Option Addr) (len : Nat) (vs : List V3) : Prop :=
  vs.length = len ∧ len ≤ 9223372036854775807 ∧ (len = 0 ∨ ∃ b off, a = some ⟨b, off, none⟩ ∧ ∀ i, i < len →
    w.cell? ⟨b, off + i * 3, none⟩ = some (.int .i64 (vs.getD i zeroV).1) ∧ w.cell? ⟨b, off + i * 3 + 1, none⟩ = some (.int .i64 (vs.getD i zeroV).2.1) ∧ w.cell? ⟨b, off + i * 3 + 2, none⟩ = some (.int .i64 (vs.getD i zeroV).2.2))

theorem vrow_keep {w w' : World} {a : Option Addr} {len : Nat} {vs : List V3} (h : VRow w a len vs) (hb : Below w.heap.size w w') : VRow w' a len vs := by
  obtain ⟨h1, h2, h3⟩ := h
  refine ⟨h1, h2, ?_⟩
  rcases h3 with h3 | ⟨b, off, e, hc⟩
  · exact Or.inl h3
  · exact Or.inr ⟨b, off, e, fun i hi => ⟨cell_keep (hc i hi).1 hb, cell_keep (hc i hi).2.1 hb, cell_keep (hc i hi).2.2 hb⟩⟩

theorem VRow.at_ {w : World} {a : Option Addr} {len k : Nat} {vs : List V3} (h : VRow w a len vs) (hk : k < len) :
    ∃ b off x y z, a = some ⟨b, off, none⟩ ∧ vs[k]? = some (x, y, z) ∧ w.cell? ⟨b, off + k * 3, none⟩ = some (.int .i64 x) ∧ w.cell? ⟨b, off + k * 3 + 1, none⟩ = some (.int .i64 y) ∧ w.cell? ⟨b, off + k * 3 + 2, none⟩ = some (.int .i64 z) := by
  obtain ⟨h1, h2, h3⟩ := h
  rcases h3 with h3 | ⟨b, off, rfl, hc⟩
  · omega
  · have hk' : k < vs.length := by omega
    obtain ⟨c0, c1, c2⟩ := hc k hk
    have e : vs.getD k zeroV = vs[k] := by simp [List.getD, List.getElem?_eq_getElem hk']
    rw [e] at c0 c1 c2
    exact ⟨b, off, _, _, _, rfl, List.getElem?_eq_getElem hk', c0, c1, c2⟩

theorem rightV_succ {vs : List V3} {k : Nat} {x y z : Int} (h : vs[k]? = some (x, y, z)) (hr : rightV (vs.take k) = true) (ho : ok3 x y z = true) : rightV (vs.take (k + 1)) = true := by
  unfold rightV at hr ⊢
  rw [List.take_add_one, List.all_append, hr, h]
  simpa [okV] using ho
theorem rightV_bad {vs : List V3} {k : Nat} {x y z : Int} (h : vs[k]? = some (x, y, z)) (ho : ok3 x y z = false) : rightV vs = false := by
  unfold rightV
  rw [List.all_eq_false]
  exact ⟨(x, y, z), List.mem_of_getElem? h, by simpa [okV] using ho⟩
theorem rightV_all {vs : List V3} {k : Nat} (hr : rightV (vs.take k) = true) (h : vs.length ≤ k) : rightV vs = true := by
  rwa [List.take_of_length_le h] at hr

theorem row3 {w : World} {g : Nat} {t : TypeId} {x y z : Int} (h : Blk w g t #[.int .i64 x, .int .i64 y, .int .i64 z]) : Row w (some ⟨g, 0, none⟩) 3 [x, y, z] := by
  refine ⟨rfl, by omega, Or.inr ⟨_, _, rfl, fun i hi => ?_⟩⟩
  obtain rfl | rfl | rfl : i = 0 ∨ i = 1 ∨ i = 2 := by omega
  · exact h.cell 0
  · exact h.cell 1
  · exact h.cell 2

theorem right3_yes {w : World} {g cap : Nat} {t : TypeId} {x y z : Int} (ho : ok3 x y z = true) (h : Blk w g t #[.int .i64 x, .int .i64 y, .int .i64 z]) :
    Calls Tryz.prog 180 #[.slice (some ⟨g, 0, none⟩) 3 cap] w fun e w' => e = .returned (.bool true) ∧ w = w' :=
  (right_any _ 3 cap [x, y, z] w (row3 h)).mono fun _ _ ⟨he, hw⟩ => ⟨by rw [he, show rightB [x, y, z] = true from ho], hw⟩
theorem right3_no {w : World} {g cap : Nat} {t : TypeId} {x y z : Int} (ho : ok3 x y z = false) (h : Blk w g t #[.int .i64 x, .int .i64 y, .int .i64 z]) :
    Calls Tryz.prog 180 #[.slice (some ⟨g, 0, none⟩) 3 cap] w fun e w' => e = .returned (.bool false) ∧ w = w' :=
  (right_any _ 3 cap [x, y, z] w (row3 h)).mono fun _ _ ⟨he, hw⟩ => ⟨by rw [he, show rightB [x, y, z] = false from ho], hw⟩

set_option maxHeartbeats 400000 in
theorem vright_any (a : Option Addr) (len cap : Nat) (vs : List V3) (w : World) (row : VRow w a len vs) :
    Calls Tryz.prog 181 #[.slice a len cap] w fun e w' => e = .returned (.bool (rightV vs)) ∧ Below w.heap.size w w' := by
  have HL := Lib.hid row.1
  have hbig := row.2.1
  have HRow := Lib.hid row
  clear row
  go_enter Tryz.func181, Tryz.ntmps181
  go_wp2
  go_loopw [4, 7] (fun _ i wr => ∃ k : Nat, k ≤ len ∧ i = .int .i64 k ∧ rightV (vs.take k) = true ∧ Below w.heap.size w wr) (fun _ i _ => len - (intOf i).toNat)
  case atStart => exact ⟨0, Nat.zero_le _, rfl, rfl, Below.refl _ _⟩
  case round =>
    obtain ⟨k, hk, rfl, hr, hb⟩ := hrel
    have HR := Lib.hid hr
    have HB := Lib.hid hb
    clear hr hb
    by_cases hlt : k < len
    · obtain ⟨b, off, x, y, z, rfl, hv, c0, c1, c2⟩ := (vrow_keep HRow.out HB.out).at_ hlt
      have HV := Lib.hid hv
      clear hv
      by_cases ho : ok3 x y z = true
      · have HO := Lib.hid ho
        clear ho
        go_wp2_with (go_at_call 180; refine (right3_yes HO.out (Blk.new _ _ _)).mono ?_; rintro e w' ⟨rfl, rfl⟩)
        go_roundw
        case rel => exact ⟨k + 1, by omega, by go_num, rightV_succ HV.out HR.out HO.out, balloc HB.out _⟩
        case measure => simp [intOf]; omega
      · have ho' : ok3 x y z = false := by simpa using ho
        have HO := Lib.hid ho'
        clear ho ho'
        go_wp2_with (go_at_call 180; refine (right3_no HO.out (Blk.new _ _ _)).mono ?_; rintro e w' ⟨rfl, rfl⟩)
        go_ret
        exact ⟨ret_bool (rightV_bad HV.out HO.out).symm, balloc HB.out _⟩
    · go_wp2
      go_ret
      exact ⟨ret_bool (rightV_all HR.out (by rw [HL.out]; omega)).symm, HB.out⟩

theorem bdrew {w w1 : World} (h : Below w.drew.heap.size w.drew w1) : Below w.heap.size w w1 := ⟨h.os, h.tape, h.output, h.size, h.block⟩
theorem Blk.drew {w : World} {g : Nat} {t : TypeId} {cs : Array Value} (h : Blk w g t cs) : Blk w.drew g t cs := h

theorem World.rowIs.keep {w w' : World} {b : Nat} {t : TypeId} {n : Nat} {f : Nat → Value} (h : w.rowIs b t n f) (hb : Below w.heap.size w w') : w'.rowIs b t n f := h.of_block (hb.block b h.lt)

theorem bset3 {w a : World} {g : Nat} {u0 u1 u2 : Value} (h : Below w.heap.size w a) (hg : w.heap.size ≤ g) : Below w.heap.size w (((a.setCell ⟨g, 0, none⟩ u0).setCell ⟨g, 1, none⟩ u1).setCell ⟨g, 2, none⟩ u2) := ((h.setCell hg _).setCell hg _).setCell hg _

theorem vrow2 {w : World} {g : Nat} {t : TypeId} {x0 x1 x2 y0 y1 y2 : Int} (h : Blk w g t #[.int .i64 x0, .int .i64 x1, .int .i64 x2, .int .i64 y0, .int .i64 y1, .int .i64 y2]) : VRow w (some ⟨g, 0, none⟩) 2 [(x0, x1, x2), (y0, y1, y2)] := by
  refine ⟨rfl, by omega, Or.inr ⟨_, _, rfl, fun i hi => ?_⟩⟩
  obtain rfl | rfl : i = 0 ∨ i = 1 := by omega
  · exact ⟨h.cell 0, h.cell 1, h.cell 2⟩
  · exact ⟨h.cell 3, h.cell 4, h.cell 5⟩

end Go.Proofs.YtkondkajpmafkaaGreat
