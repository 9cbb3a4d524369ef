/-
  What the program's layingsOf (a map of closures) and lay of layer 6 answer.
-/
import Derived.Test.YtpobnmcjmclgbaaPrtJ
import Derived.Maps.Own
namespace Go.Proofs.Ytpobnmcjmclgbaa
open Go.RowKit

/-! a map in the heap's last block -/
theorem set_last (w : World) (o o' : Obj) : ({ w.alloc o with heap := (w.alloc o).heap.setIfInBounds w.heap.size o' } : World) = w.alloc o' := by
  have h : (w.alloc o).heap.setIfInBounds w.heap.size o' = (w.alloc o').heap := by
    show (w.heap.push o).setIfInBounds w.heap.size o' = w.heap.push o'
    refine Array.ext' ?_
    rw [Array.toList_setIfInBounds, Array.toList_push, Array.toList_push, ← Array.length_toList, List.set_append_right _ _ (Nat.le_refl _)]
    simp
  rw [h]
  rfl
theorem kind_law : Go.Maps.Keyed Try.prog 68 := Go.Maps.int_keyed Try.underlying68
theorem run_find {w : World} {es : List MapEntry} {k : Int} {r : Option (Nat × Value)} (h : Instr.findNow (.int .i64) (.int .i64 k) es 0 = some r) : (Instr.findKey 68 (.int .i64 k) es).run Try.prog w = .ok r w := by
  unfold Instr.findKey
  simp only [Sem.run_bind, run_underlying Try.underlying68, Result.andThen, h]
  rfl
theorem kind_key {k : Int} (hk : kOk k = true) : keyOf Try.prog 68 (.int .i64 k) = some (.int .i64 k) := by
  refine Go.Maps.keyOf_int_mk Try.underlying68 ?_
  rcases kOk_cases hk with rfl | rfl | rfl | rfl | rfl <;> decide
theorem run_put (w : World) (es : Array MapEntry) (n b : Nat) (hb : w.heap.size = b) {k : Int} (hk : kOk k = true) (v : Value) (hn : Instr.findNow (.int .i64) (.int .i64 k) es.toList 0 = some none) :
    (Instr.mapUpdate 109 (.map (some b)) (.int .i64 k) v).run Try.prog (w.alloc (.map es n)) = .ok () (w.alloc (.map (es.push ⟨.int .i64 k, v, n⟩) (n + 1))) := by
  subst hb
  have hh : (w.alloc (.map es n)).heap[w.heap.size]? = some (.map es n) := heap_alloc_new w (.map es n)
  simp [Instr.mapUpdate, run_underlying Try.underlying109, MapKept.run_getObj_map hh, kind_law.check (w.alloc (.map es n)) false (kind_key hk), run_find hn, MapKept.run_setObj_map _ hh, Result.andThen]
  exact set_last w _ _
theorem run_get {w : World} {es : Array MapEntry} {n b : Nat} (hb : w.heap[b]? = some (.map es n)) {k : Int} (hk : kOk k = true) {i : Nat} {v : Value} (hf : Instr.findNow (.int .i64) (.int .i64 k) es.toList 0 = some (some (i, v))) :
    (Instr.lookup 109 (.map (some b)) (.int .i64 k) false).run Try.prog w = .ok v w := by
  simp [Instr.lookup, run_underlying Try.underlying109, MapKept.run_getObj_map hb, kind_law.check w _ (kind_key hk), run_find hf, Result.andThen]
/-- the map's entries -/
def laysE (g : Nat) : Array MapEntry := #[⟨.int .i64 0, .func (.func (clOf 0)) #[] (capOf g 0), 0⟩, ⟨.int .i64 1, .func (.func (clOf 1)) #[] (capOf g 1), 1⟩, ⟨.int .i64 2, .func (.func (clOf 2)) #[] (capOf g 2), 2⟩, ⟨.int .i64 3, .func (.func (clOf 3)) #[] (capOf g 3), 3⟩, ⟨.int .i64 4, .func (.func (clOf 4)) #[] (capOf g 4), 4⟩]
theorem lays_get {w : World} {b g : Nat} (hb : w.heap[b]? = some (.map (laysE g) 5)) {k : Int} (hk : kOk k = true) :
    (Instr.lookup 109 (.map (some b)) (.int .i64 k) false).run Try.prog w = .ok (.func (.func (clOf k)) #[] (capOf g k)) w := by
  rcases kOk_cases hk with rfl | rfl | rfl | rfl | rfl
  · exact run_get hb hk (i := 0) rfl
  · exact run_get hb hk (i := 1) rfl
  · exact run_get hb hk (i := 2) rfl
  · exact run_get hb hk (i := 3) rfl
  · exact run_get hb hk (i := 4) rfl

set_option maxHeartbeats 1000000 in
set_option maxRecDepth 100000 in
theorem layings_any (X : List Value) (w : World) :
    Calls Try.prog 58 #[.agg X.toArray] w fun e w' => e = .returned (.map (some (w.heap.size + 1))) ∧ w' = (w.alloc (.cells X.toArray 39)).alloc (.map (laysE w.heap.size) 5) := by
  have hmm := @run_makeMap Try.prog
  have hp0 := run_put (w.alloc (.cells X.toArray 39)) #[] 0 (w.heap.size + 1) (by simp) (k := 0) rfl (.func (.func (clOf 0)) #[] (capOf w.heap.size 0)) rfl
  have hp1 := run_put (w.alloc (.cells X.toArray 39)) #[⟨.int .i64 0, .func (.func (clOf 0)) #[] (capOf w.heap.size 0), 0⟩] 1 (w.heap.size + 1) (by simp) (k := 1) rfl (.func (.func (clOf 1)) #[] (capOf w.heap.size 1)) rfl
  have hp2 := run_put (w.alloc (.cells X.toArray 39)) #[⟨.int .i64 0, .func (.func (clOf 0)) #[] (capOf w.heap.size 0), 0⟩, ⟨.int .i64 1, .func (.func (clOf 1)) #[] (capOf w.heap.size 1), 1⟩] 2 (w.heap.size + 1) (by simp) (k := 2) rfl (.func (.func (clOf 2)) #[] (capOf w.heap.size 2)) rfl
  have hp3 := run_put (w.alloc (.cells X.toArray 39)) #[⟨.int .i64 0, .func (.func (clOf 0)) #[] (capOf w.heap.size 0), 0⟩, ⟨.int .i64 1, .func (.func (clOf 1)) #[] (capOf w.heap.size 1), 1⟩, ⟨.int .i64 2, .func (.func (clOf 2)) #[] (capOf w.heap.size 2), 2⟩] 3 (w.heap.size + 1) (by simp) (k := 3) rfl (.func (.func (clOf 3)) #[] (capOf w.heap.size 3)) rfl
  have hp4 := run_put (w.alloc (.cells X.toArray 39)) #[⟨.int .i64 0, .func (.func (clOf 0)) #[] (capOf w.heap.size 0), 0⟩, ⟨.int .i64 1, .func (.func (clOf 1)) #[] (capOf w.heap.size 1), 1⟩, ⟨.int .i64 2, .func (.func (clOf 2)) #[] (capOf w.heap.size 2), 2⟩, ⟨.int .i64 3, .func (.func (clOf 3)) #[] (capOf w.heap.size 3), 3⟩] 4 (w.heap.size + 1) (by simp) (k := 4) rfl (.func (.func (clOf 4)) #[] (capOf w.heap.size 4)) rfl
  rw [show clOf 0 = 59 from rfl, show capOf w.heap.size 0 = #[.pointer (some ⟨w.heap.size, 0, none⟩)] from rfl] at hp0 hp1 hp2 hp3 hp4
  rw [show clOf 1 = 60 from rfl, show capOf w.heap.size 1 = #[.pointer (some ⟨w.heap.size, 0, none⟩)] from rfl] at hp1 hp2 hp3 hp4
  rw [show clOf 2 = 61 from rfl, show capOf w.heap.size 2 = #[.pointer (some ⟨w.heap.size, 0, none⟩)] from rfl] at hp2 hp3 hp4
  rw [show clOf 3 = 62 from rfl, show capOf w.heap.size 3 = #[.pointer (some ⟨w.heap.size, 0, none⟩)] from rfl] at hp3 hp4
  rw [show clOf 4 = 63 from rfl, show capOf w.heap.size 4 = #[] from rfl] at hp4
  simp only [List.push_toArray, List.nil_append, List.cons_append] at hp0 hp1 hp2 hp3 hp4
  go_enter Try.func58, Try.ntmps58
  go_wp2
  go_ret
  exact ⟨rfl, rfl⟩

end Go.Proofs.Ytpobnmcjmclgbaa
