/-
  3 texts in one file, each with its own heading.
-/
import Derived.Test.YtkondkajpmafkaaGreatMT13
import Derived.Test.YtkondkajpmafkaaGreatMT43
import Derived.Test.YtkondkajpmafkaaGreatMT44
import Derived.Maps.OwnSet
import Derived.Lib.SlKeysI
import Derived.Deep.RegionHeld3
/-
  The landed store in memory: 516 cells; its pool, its map of tables, its goings; what stays where one part of it changes.
-/
namespace Go.Proofs.YtkondkajpmafkaaGreat
open Go.RowKit

def mkG (m : Int × Int) : Int × PT := (m.1, m.2, zI, 0, zI, 0, 0, false, 0)
def cG (x : Int × PT) : List Value := [.int .i64 x.1, .int .i64 x.2.1]
def ColG (w : World) (v : Value) (l : List (Int × Int)) : Prop := ColX w 156 2 cG v (l.map mkG)
def lF (p mb : Nat) (now : Int) (ls lt : Nat → Int) (gv : Value) (j : Nat) : Value :=
  if j = 0 then .pointer (some ⟨p, 0, none⟩) else if j = 1 then .map (some mb) else if j = 2 then .int .i64 now else if j < 515 then (if j % 2 = 1 then .int .i64 (ls ((j - 3) / 2)) else .int .i64 (lt ((j - 4) / 2))) else gv
section
variable {p mb : Nat} {now : Int} {ls lt : Nat → Int} {gv : Value} {k : Nat}
theorem lF_set (hk : k < 256) : lF p mb now ls lt gv (3 + k * 2) = .int .i64 (ls k) := by
  unfold lF
  rw [if_neg (by omega), if_neg (by omega), if_neg (by omega), if_pos (by omega), if_pos (by omega), show (3 + k * 2 - 3) / 2 = k by omega]
theorem lF_tick (hk : k < 256) : lF p mb now ls lt gv (3 + k * 2 + 1) = .int .i64 (lt k) := by
  unfold lF
  rw [if_neg (by omega), if_neg (by omega), if_neg (by omega), if_pos (by omega), if_neg (by omega), show (3 + k * 2 + 1 - 4) / 2 = k by omega]
theorem lF_upTick (hk : k < 256) (v : Int) (j : Nat) : (if j = 3 + k * 2 + 1 then .int .i64 v else lF p mb now ls lt gv j) = lF p mb now ls (upf lt k v) gv j := by
  unfold lF upf
  by_cases c : j = 3 + k * 2 + 1
  · rw [if_pos c, if_neg (by omega), if_neg (by omega), if_neg (by omega), if_pos (by omega), if_neg (by omega), if_pos (by omega)]
  · rw [if_neg c]
    by_cases c0 : j = 0
    · rw [if_pos c0, if_pos c0]
    · rw [if_neg c0, if_neg c0]
      by_cases c1 : j = 1
      · rw [if_pos c1, if_pos c1]
      · rw [if_neg c1, if_neg c1]
        by_cases c2 : j = 2
        · rw [if_pos c2, if_pos c2]
        · rw [if_neg c2, if_neg c2]
          by_cases c3 : j < 515
          · rw [if_pos c3, if_pos c3]
            by_cases c4 : j % 2 = 1
            · rw [if_pos c4, if_pos c4]
            · rw [if_neg c4, if_neg c4, if_neg (by omega)]
          · rw [if_neg c3, if_neg c3]
theorem lF_upSet (hk : k < 256) (v : Int) (j : Nat) : (if j = 3 + k * 2 then .int .i64 v else lF p mb now ls lt gv j) = lF p mb now (upf ls k v) lt gv j := by
  unfold lF upf
  by_cases c : j = 3 + k * 2
  · rw [if_pos c, if_neg (by omega), if_neg (by omega), if_neg (by omega), if_pos (by omega), if_pos (by omega), if_pos (by omega)]
  · rw [if_neg c]
    by_cases c0 : j = 0
    · rw [if_pos c0, if_pos c0]
    · rw [if_neg c0, if_neg c0]
      by_cases c1 : j = 1
      · rw [if_pos c1, if_pos c1]
      · rw [if_neg c1, if_neg c1]
        by_cases c2 : j = 2
        · rw [if_pos c2, if_pos c2]
        · rw [if_neg c2, if_neg c2]
          by_cases c3 : j < 515
          · rw [if_pos c3, if_pos c3]
            by_cases c4 : j % 2 = 1
            · rw [if_pos c4, if_pos c4, if_neg (by omega)]
            · rw [if_neg c4, if_neg c4]
          · rw [if_neg c3, if_neg c3]
theorem lF_upNow (v : Int) (j : Nat) : (if j = 2 then .int .i64 v else lF p mb now ls lt gv j) = lF p mb v ls lt gv j := by
  unfold lF
  by_cases c : j = 2
  · rw [if_pos c, if_neg (by omega), if_neg (by omega), if_pos c]
  · rw [if_neg c, if_neg c, if_neg c]
theorem lF_upGo (v : Value) (j : Nat) (hj : j < 516) : (if j = 515 then v else lF p mb now ls lt gv j) = lF p mb now ls lt v j := by
  unfold lF
  by_cases c : j = 515
  · rw [if_pos c, if_neg (by omega), if_neg (by omega), if_neg (by omega), if_neg (by omega)]
  · rw [if_neg c]
    by_cases c3 : j < 515
    · rw [if_pos c3, if_pos c3]
    · omega
end

def tV : Option Nat → Value
  | some b => .pointer (some ⟨b, 0, none⟩)
  | none => .pointer none
def tD : Option Nat → DataW Unit
  | some b => .lit (.int .i64 b)
  | none => .nil
def tR : Value → Option (DataW Unit × List MemPlace)
  | .pointer none => some (.nil, [])
  | .pointer (some a) => if a = ⟨a.block, 0, none⟩ then some (.lit (.int .i64 a.block), []) else none
  | _ => none
theorem tR_V (o : Option Nat) : tR (tV o) = some (tD o, []) := by cases o <;> simp [tV, tD, tR]
theorem tR_inv {v : Value} {o : Option Nat} {ps : List MemPlace} (h : tR v = some (tD o, ps)) : v = tV o := by
  unfold tR at h
  split at h
  · cases o
    · rfl
    · simp [tD] at h
  · rename_i a
    by_cases c : a = ⟨a.block, 0, none⟩
    · rw [if_pos c] at h
      cases o with
      | none => simp [tD] at h
      | some b =>
        simp [tD] at h
        have : a.block = b := by omega
        unfold tV
        rw [c, this]
    · rw [if_neg c] at h
      cases h
  · cases h
theorem set_law : Go.Maps.Keyed Tryz.prog 34 := Go.Maps.int_keyed Tryz.underlying34
theorem zv_tab (w : World) : (zeroValue 148).run Tryz.prog w = .ok (.pointer none) w := by kernel_rfl
theorem set_key {i : Nat} (hi : i < 32) : keyOf Tryz.prog 34 (.int .i64 i) = some (.int .i64 i) := by
  refine Go.Maps.keyOf_int_mk Tryz.underlying34 ?_
  have h : decide (IntKind.i64.min ≤ (i : Int)) = true := decide_eq_true (by show (-9223372036854775808 : Int) ≤ _; omega)
  have h' : decide ((i : Int) ≤ IntKind.i64.max) = true := decide_eq_true (by show _ ≤ (9223372036854775807 : Int); omega)
  show (decide (IntKind.i64.min ≤ (i : Int)) && decide ((i : Int) ≤ IntKind.i64.max)) = true
  rw [h, h']
  rfl
def tsK (ts : Nat → Option Nat) : List Int := ((List.range 32).filter fun i => (ts i).isSome).map fun (i : Nat) => (i : Int)
theorem tsK_mem {ts : Nat → Option Nat} {x : Int} : x ∈ tsK ts ↔ ∃ i : Nat, i < 32 ∧ (ts i).isSome = true ∧ x = (i : Int) := by
  unfold tsK
  rw [List.mem_map]
  constructor
  · rintro ⟨i, hi, rfl⟩
    rw [List.mem_filter, List.mem_range] at hi
    exact ⟨i, hi.1, hi.2, rfl⟩
  · rintro ⟨i, hi, hs, rfl⟩
    exact ⟨i, by rw [List.mem_filter, List.mem_range]; exact ⟨hi, hs⟩, rfl⟩
theorem tsK_lt (ts : Nat → Option Nat) : (tsK ts).Pairwise (· < ·) := by
  unfold tsK
  refine List.pairwise_map.2 ((List.Pairwise.filter _ List.pairwise_lt_range).imp fun {a b} h => ?_)
  omega
theorem tsK_len (ts : Nat → Option Nat) : (tsK ts).length ≤ 32 := by
  unfold tsK
  rw [List.length_map]
  have := List.length_filter_le (fun i => (ts i).isSome) (List.range 32)
  rwa [List.length_range] at this
def TK (D : DataW Unit) (ts : Nat → Option Nat) : Prop := (∀ i : Nat, i < 32 → D.atKey (.int .i64 i) .nil = tD (ts i) ∧ Maps.has D (.int .i64 i) = (ts i).isSome) ∧ ∀ x : Int, Maps.has D (.int .i64 x) = true → 0 ≤ x ∧ x < 32
def TM (w : World) (mb : Nat) (ts : Nat → Option Nat) : Prop := ∃ D : DataW Unit, w.ownsMap Tryz.prog 34 tR mb 32 D ∧ TK D ts
theorem TK.keys {w : World} {mb n : Nat} {ts : Nat → Option Nat} {D : DataW Unit} (hw : w.ownsMap Tryz.prog 34 tR mb n D) (h : TK D ts) : (tsK ts).Perm (intKeys D) := by
  refine CollectedI.perm (left := fun _ => false) ⟨(tsK_lt ts).imp (fun {a b} c => by omega), fun x => ?_⟩ hw set_law Tryz.underlying34 (fun _ => rfl)
  rw [tsK_mem]
  constructor
  · rintro ⟨i, hi, hs, rfl⟩
    exact ⟨by rw [(h.1 i hi).2]; exact hs, rfl⟩
  · rintro ⟨hx, _⟩
    obtain ⟨h0, h1⟩ := h.2 x hx
    obtain ⟨i, rfl⟩ : ∃ i : Nat, x = (i : Int) := ⟨x.toNat, by omega⟩
    have hi : i < 32 := by omega
    exact ⟨i, hi, by rw [← (h.1 i hi).2]; exact hx, rfl⟩
theorem TK.size {w : World} {mb n : Nat} {ts : Nat → Option Nat} {D : DataW Unit} (hw : w.ownsMap Tryz.prog 34 tR mb n D) (h : TK D ts) : Maps.size D ≤ 32 := by
  have hp := (h.keys hw).length_eq
  have hl := tsK_len ts
  obtain ⟨es, rfl, _⟩ := hw.entries set_law
  unfold intKeys at hp
  rw [List.length_map] at hp
  rw [Maps.size_eq]
  omega
theorem own_size {w : World} {mb n m : Nat} {D : DataW Unit} (hw : w.ownsMap Tryz.prog 34 tR mb n D) (h : Maps.size D ≤ m) : w.ownsMap Tryz.prog 34 tR mb m D := by
  obtain ⟨es, clock, hb, F, hs, hD⟩ := hw
  refine ⟨es, clock, hb, F, ?_, hD⟩
  have e1 : Maps.size D = es.size := by rw [hD]; simp [Maps.size, length_sorted]
  omega
theorem TM.lt {w : World} {mb : Nat} {ts : Nat → Option Nat} (h : TM w mb ts) : mb < w.heap.size := by
  obtain ⟨D, hD, _⟩ := h
  exact hD.lt
theorem TM.same {w w' : World} {mb : Nat} {ts : Nat → Option Nat} (h : TM w mb ts) (he : w'.heap[mb]? = w.heap[mb]?) : TM w' mb ts := by
  obtain ⟨D, ⟨es, clock, hb, F, hs, hD⟩, hk⟩ := h
  exact ⟨D, ⟨es, clock, he.trans hb, F, hs, hD⟩, hk⟩
theorem TM.new (w : World) : TM (w.alloc (.map #[] 0)) w.heap.size (fun _ => none) :=
  ⟨.map [], (World.ownsMap_made w _ _ _).mono (by omega), fun _ _ => ⟨rfl, rfl⟩, fun x h => by cases h⟩
theorem TM.get {w : World} {mb : Nat} {ts : Nat → Option Nat} (h : TM w mb ts) {i : Nat} (hi : i < 32) : (Instr.lookup 112 (.map (some mb)) (.int .i64 i) false).run Tryz.prog w = .ok (tV (ts i)) w := by
  obtain ⟨D, hD, hk⟩ := h
  obtain ⟨v, ps, hrun, hv⟩ := hD.lookup set_law Tryz.underlying112 (zv_tab w) (zd := .nil) (zp := []) rfl (set_key hi)
  rw [(hk.1 i hi).1] at hv
  rw [hrun, tR_inv hv]
theorem TM.put {w : World} {mb : Nat} {ts : Nat → Option Nat} (h : TM w mb ts) {i : Nat} (hi : i < 32) (b : Nat) :
    ∃ w', (Instr.mapUpdate 112 (.map (some mb)) (.int .i64 i) (.pointer (some ⟨b, 0, none⟩))).run Tryz.prog w = .ok () w' ∧ TM w' mb (upf ts i (some b)) ∧ w.grownBy w' (some mb) := by
  obtain ⟨D, hD, hk⟩ := h
  obtain ⟨w', hrun, h1, h2⟩ := hD.update set_law Tryz.underlying112 (by unfold maxLen; omega) (set_key hi) (tR_V (some b))
  have hm : Maps.IsMap D := hD.isMap
  have hK : WideAt.IsKeyLit (.int .i64 (i : Int)) := trivial
  have hne : ∀ {x : Int}, x ≠ (i : Int) → (Lit.int .i64 x) ≠ .int .i64 (i : Int) := fun hx e => by injection e with _ e; exact hx e
  have hk' : TK (D.put (.int .i64 (i : Int)) (tD (some b))) (upf ts i (some b)) := by
    refine ⟨fun j hj => ?_, fun x hx => ?_⟩
    · by_cases c : j = i
      · subst c
        have e : upf ts j (some b) j = some b := by unfold upf; rw [if_pos rfl]
        rw [e, Maps.atKey_put_same hm hK, Maps.has_put_same hm hK]
        exact ⟨rfl, rfl⟩
      · have e : upf ts i (some b) j = ts j := by unfold upf; rw [if_neg c]
        have hx : ((j : Nat) : Int) ≠ (i : Int) := by omega
        rw [e, Maps.atKey_put_other (hne hx), Maps.has_put_other (hne hx)]
        exact hk.1 j hj
    · by_cases c : x = (i : Int)
      · omega
      · rw [Maps.has_put_other (hne c)] at hx
        exact hk.2 x hx
  exact ⟨w', hrun, ⟨_, own_size h1 (hk'.size h1), hk'⟩, h2⟩

def TO (w : World) (o : Option Nat) (L : Nat → Prop) (i : Nat) (R : TR) : Prop := match o with
  | some b => TBl w b L i R
  | none => R = [] ∧ ∀ b, ¬ L b
structure LM (w : World) (g : Nat) (S : St) (p mb : Nat) (ls lt : Nat → Int) (ts : Nat → Option Nat) (Lf : Nat → Nat → Prop) (gv : Value) (lab : Nat → Nat) : Prop where
  row : w.rowIs g 118 516 (lF p mb S.now ls lt gv)
  pool : w.rowIs p 158 513 (poolF S.room S.G S.L)
  map : TM w mb ts
  tab : ∀ i, i < 32 → TO w (ts i) (Lf i) i (S.T i)
  gos : ColG w gv S.go
  lg : lab g = 0
  lp : lab p = 1
  lm : lab mb = 2
  lv : ∀ b, gv.ownBlock = some b → lab b = 3
  lT : ∀ i, i < 32 → ∀ b, Lf i b → lab b = 4 + i
def lfoot (g p mb : Nat) (Lf : Nat → Nat → Prop) (gv : Value) (b : Nat) : Prop := b = g ∨ b = p ∨ b = mb ∨ gv.ownBlock = some b ∨ ∃ i, i < 32 ∧ Lf i b
theorem TO.inb {w : World} {o : Option Nat} {L : Nat → Prop} {i : Nat} {R : TR} (h : TO w o L i R) : ∀ b, L b → b < w.heap.size := by
  cases o with
  | none => exact fun b c => absurd c (h.2 b)
  | some a => exact fun b c => tc_holds.2.1 w a L i R h b c
theorem TO.same {w w' : World} {o : Option Nat} {L : Nat → Prop} {i : Nat} {R : TR} (h : TO w o L i R) (he : ∀ b, L b → w'.heap[b]? = w.heap[b]?) : TO w' o L i R := by
  cases o with
  | none => exact h
  | some a => exact tc_holds.1 w w' a L i R h he
section
variable {w w' : World} {g p mb : Nat} {S : St} {ls lt : Nat → Int} {ts : Nat → Option Nat} {Lf : Nat → Nat → Prop} {gv : Value} {lab : Nat → Nat}
theorem LM.inb (h : LM w g S p mb ls lt ts Lf gv lab) : ∀ b, lfoot g p mb Lf gv b → b < w.heap.size := by
  rintro b (rfl | rfl | rfl | e | ⟨i, hi, e⟩)
  · exact h.row.lt
  · exact h.pool.lt
  · exact h.map.lt
  · exact (World.ownsRow.lt h.gos b e).2
  · exact (h.tab i hi).inb b e
theorem LM.same (h : LM w g S p mb ls lt ts Lf gv lab) (he : ∀ b, lfoot g p mb Lf gv b → w'.heap[b]? = w.heap[b]?) : LM w' g S p mb ls lt ts Lf gv lab :=
  ⟨h.row.of_block (he g (Or.inl rfl)), h.pool.of_block (he p (Or.inr (Or.inl rfl))), h.map.same (he mb (Or.inr (Or.inr (Or.inl rfl)))), fun i hi => (h.tab i hi).same (fun b c => he b (Or.inr (Or.inr (Or.inr (Or.inr ⟨i, hi, c⟩))))),
    ColX.same h.gos (fun b e => he b (Or.inr (Or.inr (Or.inr (Or.inl e))))), h.lg, h.lp, h.lm, h.lv, h.lT⟩
theorem LM.keep (h : LM w g S p mb ls lt ts Lf gv lab) (hb : Below w.heap.size w w') : LM w' g S p mb ls lt ts Lf gv lab := h.same (fun b hf => hb.block b (h.inb b hf))
end
def LB (w : World) (g : Nat) (F : Nat → Prop) (S : St) (ls lt : Nat → Int) : Prop := ∃ p mb ts Lf gv lab, LM w g S p mb ls lt ts Lf gv lab ∧ ∀ b, F b ↔ lfoot g p mb Lf gv b
def CM (w w' : World) (g : Nat) (F : Nat → Prop) (S : St) (ls lt : Nat → Int) : Prop := ∃ F', LB w' g F' S ls lt ∧ Fr w w' F ∧ ∀ b, F' b → F b ∨ w.heap.size ≤ b
section
variable {w w' w1 w2 : World} {g p mb : Nat} {S S' S'' : St} {ls lt ls' lt' : Nat → Int} {ts : Nat → Option Nat} {Lf : Nat → Nat → Prop} {gv : Value} {lab : Nat → Nat} {F : Nat → Prop}
theorem LB.keep (h : LB w g F S ls lt) (hb : Below w.heap.size w w') : LB w' g F S ls lt := by
  obtain ⟨p, mb, ts, Lf, gv, lab, h1, h2⟩ := h
  exact ⟨p, mb, ts, Lf, gv, lab, h1.keep hb, h2⟩
theorem LB.inH (h : LB w g F S ls lt) : g < w.heap.size := by
  obtain ⟨p, mb, ts, Lf, gv, lab, h1, h2⟩ := h
  exact h1.row.lt
theorem fr_refl (w : World) (F : Nat → Prop) : Fr w w F := ⟨rfl, rfl, rfl, Nat.le_refl _, fun _ _ _ => rfl⟩
theorem CM.still (h : LB w g F S ls lt) (hb : Below w.heap.size w w') : CM w w' g F S ls lt :=
  ⟨F, h.keep hb, ⟨hb.os, hb.tape, hb.output, hb.size, fun b hl _ => hb.block b hl⟩, fun _ h => Or.inl h⟩
theorem CM.of (h : CM w1 w2 g F S ls lt) (hb : Below w.heap.size w w1) : CM w w2 g F S ls lt := by
  obtain ⟨F', h1, h2, h3⟩ := h
  exact ⟨F', h1, Fr.after hb h2, fun b hf => (h3 b hf).imp_right (fun c => Nat.le_trans hb.size c)⟩
theorem CM.back (h : CM w w1 g F S ls lt) (hb : Below w1.heap.size w1 w2) : CM w w2 g F S ls lt := by
  obtain ⟨F', h1, h2, h3⟩ := h
  exact ⟨F', h1.keep hb, Fr.behind h2 hb, h3⟩
theorem LM.others (h : LM w g S p mb ls lt ts Lf gv lab) {k : Nat} (hb : ∀ b, b < w.heap.size → lab b ≠ k → w'.heap[b]? = w.heap[b]?) :
    (k ≠ 0 → w'.rowIs g 118 516 (lF p mb S.now ls lt gv)) ∧ (k ≠ 1 → w'.rowIs p 158 513 (poolF S.room S.G S.L)) ∧ (k ≠ 2 → TM w' mb ts) ∧ (k ≠ 3 → ColG w' gv S.go) ∧ ∀ i, i < 32 → k ≠ 4 + i → TO w' (ts i) (Lf i) i (S.T i) :=
  ⟨fun c => h.row.of_block (hb g h.row.lt (by rw [h.lg]; exact Ne.symm c)), fun c => h.pool.of_block (hb p h.pool.lt (by rw [h.lp]; exact Ne.symm c)), fun c => h.map.same (hb mb h.map.lt (by rw [h.lm]; exact Ne.symm c)),
    fun c => ColX.same h.gos (fun b e => hb b (World.ownsRow.lt h.gos b e).2 (by rw [h.lv b e]; exact Ne.symm c)), fun i hi c => (h.tab i hi).same (fun b e => hb b ((h.tab i hi).inb b e) (by rw [h.lT i hi b e]; exact Ne.symm c))⟩
theorem LM.cells (h : LM w g S p mb ls lt ts Lf gv lab) (hF : ∀ b, F b ↔ lfoot g p mb Lf gv b) (hg : w.grownBy w' (some g)) {now' : Int} (hr : w'.rowIs g 118 516 (lF p mb now' ls' lt' gv)) : CM w w' g F { S with now := now' } ls' lt' := by
  obtain ⟨_, o1, o2, o3, o4⟩ := h.others (k := 0) (w' := w') (fun b hb hl => hg.block b hb (fun e => hl (by injection e with e; rw [e]; exact h.lg)))
  exact ⟨F, ⟨p, mb, ts, Lf, gv, lab, ⟨hr, o1 (by omega), o2 (by omega), fun i hi => o4 i hi (by omega), o3 (by omega), h.lg, h.lp, h.lm, h.lv, h.lT⟩, hF⟩,
    ⟨hg.os, hg.tape, hg.output, hg.size, fun b hb hn => hg.block b hb (fun e => hn ((hF b).2 (Or.inl (by injection e))))⟩, fun _ h => Or.inl h⟩
theorem LM.pooled (h : LM w g S p mb ls lt ts Lf gv lab) (hF : ∀ b, F b ↔ lfoot g p mb Lf gv b) (hg : w.grownBy w' (some p)) {G' : Nat → Int} {L' : Nat → Bool} (hr : w'.rowIs p 158 513 (poolF S.room G' L')) : CM w w' g F { S with G := G', L := L' } ls lt := by
  obtain ⟨o0, _, o2, o3, o4⟩ := h.others (k := 1) (w' := w') (fun b hb hl => hg.block b hb (fun e => hl (by injection e with e; rw [e]; exact h.lp)))
  exact ⟨F, ⟨p, mb, ts, Lf, gv, lab, ⟨o0 (by omega), hr, o2 (by omega), fun i hi => o4 i hi (by omega), o3 (by omega), h.lg, h.lp, h.lm, h.lv, h.lT⟩, hF⟩,
    ⟨hg.os, hg.tape, hg.output, hg.size, fun b hb hn => hg.block b hb (fun e => hn ((hF b).2 (Or.inr (Or.inl (by injection e)))))⟩, fun _ h => Or.inl h⟩
def labN (lab : Nat → Nat) (n k b : Nat) : Nat := if b < n then lab b else k
theorem labN_lt {lab : Nat → Nat} {n k b : Nat} (h : b < n) : labN lab n k b = lab b := if_pos h
theorem LM.tabled (h : LM w g S p mb ls lt ts Lf gv lab) (hF : ∀ b, F b ↔ lfoot g p mb Lf gv b) {i a : Nat} (hi : i < 32) (hts : ts i = some a) {L' : Nat → Prop} {R : TR} (ht : TBl w' a L' i R) (hf : Fr w w' (Lf i)) (hn : ∀ b, L' b → Lf i b ∨ w.heap.size ≤ b) : CM w w' g F { S with T := upf S.T i R } ls lt := by
  obtain ⟨o0, o1, o2, o3, o4⟩ := h.others (k := 4 + i) (w' := w') (fun b hb hl => hf.2.2.2.2 b hb (fun c => hl (h.lT i hi b c)))
  have hL : ∀ j b, upf Lf i L' j b → (j = i ∧ L' b) ∨ (j ≠ i ∧ Lf j b) := fun j b c => by
    unfold upf at c
    by_cases d : j = i
    · rw [if_pos d] at c; exact Or.inl ⟨d, c⟩
    · rw [if_neg d] at c; exact Or.inr ⟨d, c⟩
  refine ⟨lfoot g p mb (upf Lf i L') gv, ⟨p, mb, ts, upf Lf i L', gv, labN lab w.heap.size (4 + i), ⟨o0 (by omega), o1 (by omega), o2 (by omega), fun j hj => ?_, o3 (by omega), ?_, ?_, ?_, fun b e => ?_, fun j hj b c => ?_⟩, fun _ => Iff.rfl⟩, ⟨hf.1, hf.2.1, hf.2.2.1, hf.2.2.2.1, fun b hb hnn => hf.2.2.2.2 b hb (fun c => hnn ((hF b).2 (Or.inr (Or.inr (Or.inr (Or.inr ⟨i, hi, c⟩))))))⟩, ?_⟩
  · show TO w' (ts j) (upf Lf i L' j) j (upf S.T i R j)
    unfold upf
    by_cases d : j = i
    · rw [if_pos d, if_pos d, d, hts]; exact ht
    · rw [if_neg d, if_neg d]; exact o4 j hj (by omega)
  · rw [labN_lt h.row.lt, h.lg]
  · rw [labN_lt h.pool.lt, h.lp]
  · rw [labN_lt h.map.lt, h.lm]
  · rw [labN_lt (World.ownsRow.lt h.gos b e).2, h.lv b e]
  · rcases hL j b c with ⟨rfl, c'⟩ | ⟨d, c'⟩
    · unfold labN
      by_cases e : b < w.heap.size
      · rw [if_pos e]
        rcases hn b c' with q | q
        · exact h.lT j hj b q
        · omega
      · rw [if_neg e]
    · rw [labN_lt ((h.tab j hj).inb b c')]
      exact h.lT j hj b c'
  · rintro b (e | e | e | e | ⟨j, hj, c⟩)
    · exact Or.inl ((hF b).2 (Or.inl e))
    · exact Or.inl ((hF b).2 (Or.inr (Or.inl e)))
    · exact Or.inl ((hF b).2 (Or.inr (Or.inr (Or.inl e))))
    · exact Or.inl ((hF b).2 (Or.inr (Or.inr (Or.inr (Or.inl e)))))
    · rcases hL j b c with ⟨rfl, c'⟩ | ⟨d, c'⟩
      · rcases hn b c' with q | q
        · exact Or.inl ((hF b).2 (Or.inr (Or.inr (Or.inr (Or.inr ⟨j, hj, q⟩)))))
        · exact Or.inr q
      · exact Or.inl ((hF b).2 (Or.inr (Or.inr (Or.inr (Or.inr ⟨j, hj, c'⟩)))))
theorem LM.need (h : LM w g S p mb ls lt ts Lf gv lab) (hF : ∀ b, F b ↔ lfoot g p mb Lf gv b) {i a : Nat} (hi : i < 32) (hts : ts i = none) {L' : Nat → Prop} (hb : Below w.heap.size w w1) (ht : TBl w1 a L' i []) (hn : ∀ b, L' b → w.heap.size ≤ b) (hm : TM w2 mb (upf ts i (some a))) (hg : w1.grownBy w2 (some mb)) :
    LM w2 g S p mb ls lt (upf ts i (some a)) (upf Lf i L') gv (labN lab w.heap.size (4 + i)) ∧ Fr w w2 F ∧ ∀ b, lfoot g p mb (upf Lf i L') gv b → F b ∨ w.heap.size ≤ b := by
  have hT : S.T i = [] := by have := h.tab i hi; rw [hts] at this; exact this.1
  have h1 := h.keep hb
  obtain ⟨o0, o1, _, o3, o4⟩ := h1.others (k := 2) (w' := w2) (fun b hbb hl => hg.block b hbb (fun e => hl (by injection e with e; rw [e]; exact h1.lm)))
  have hml := h.map.lt
  have ht2 : TBl w2 a L' i [] := tc_holds.1 w1 w2 a L' i [] ht (fun b c => hg.block b (tc_holds.2.1 w1 a L' i [] ht b c) (fun e => by injection e with e; have := hn b c; omega))
  have hL : ∀ j b, upf Lf i L' j b → (j = i ∧ L' b) ∨ (j ≠ i ∧ Lf j b) := fun j b c => by
    unfold upf at c
    by_cases d : j = i
    · rw [if_pos d] at c; exact Or.inl ⟨d, c⟩
    · rw [if_neg d] at c; exact Or.inr ⟨d, c⟩
  refine ⟨⟨o0 (by omega), o1 (by omega), hm, fun j hj => ?_, o3 (by omega), ?_, ?_, ?_, fun b e => ?_, fun j hj b c => ?_⟩, ?_, ?_⟩
  · unfold upf
    by_cases d : j = i
    · rw [if_pos d, if_pos d, d, hT]; exact ht2
    · rw [if_neg d, if_neg d]; exact o4 j hj (by omega)
  · rw [labN_lt h.row.lt, h.lg]
  · rw [labN_lt h.pool.lt, h.lp]
  · rw [labN_lt h.map.lt, h.lm]
  · rw [labN_lt (World.ownsRow.lt h.gos b e).2, h.lv b e]
  · rcases hL j b c with ⟨rfl, c'⟩ | ⟨d, c'⟩
    · unfold labN
      rw [if_neg (by have := hn b c'; omega)]
    · rw [labN_lt ((h.tab j hj).inb b c')]
      exact h.lT j hj b c'
  · refine ⟨hg.os.trans hb.os, hg.tape.trans hb.tape, hg.output.trans hb.output, Nat.le_trans hb.size hg.size, fun b hbb hnn => ?_⟩
    refine (hg.block b (Nat.lt_of_lt_of_le hbb hb.size) (fun e => hnn ?_)).trans (hb.block b hbb)
    injection e with e
    exact (hF b).2 (Or.inr (Or.inr (Or.inl e)))
  · rintro b (e | e | e | e | ⟨j, hj, c⟩)
    · exact Or.inl ((hF b).2 (Or.inl e))
    · exact Or.inl ((hF b).2 (Or.inr (Or.inl e)))
    · exact Or.inl ((hF b).2 (Or.inr (Or.inr (Or.inl e))))
    · exact Or.inl ((hF b).2 (Or.inr (Or.inr (Or.inr (Or.inl e)))))
    · rcases hL j b c with ⟨rfl, c'⟩ | ⟨d, c'⟩
      · exact Or.inr (hn b c')
      · exact Or.inl ((hF b).2 (Or.inr (Or.inr (Or.inr (Or.inr ⟨j, hj, c'⟩)))))
theorem LM.went (h : LM w g S p mb ls lt ts Lf gv lab) (hF : ∀ b, F b ↔ lfoot g p mb Lf gv b) (hf : Fr w w' (fun b => b = g ∨ gv.ownBlock = some b)) {gv' : Value} {go' : List (Int × Int)} (hr : w'.rowIs g 118 516 (lF p mb S.now ls lt gv')) (hc : ColG w' gv' go') (hn : ∀ b, gv'.ownBlock = some b → gv.ownBlock = some b ∨ w.heap.size ≤ b) : CM w w' g F { S with go := go' } ls lt := by
  have hgl := h.row.lt
  have ho : ∀ b, b < w.heap.size → b ≠ g → gv.ownBlock ≠ some b → w'.heap[b]? = w.heap[b]? := fun b hb h1 h2 => hf.2.2.2.2 b hb (fun c => c.elim h1 h2)
  have hpg : p ≠ g := fun e => by have h1 := h.lp; rw [e, h.lg] at h1; omega
  have hmg : mb ≠ g := fun e => by have h1 := h.lm; rw [e, h.lg] at h1; omega
  have hvp : gv.ownBlock ≠ some p := fun e => by have h1 := h.lv p e; rw [h.lp] at h1; omega
  have hvm : gv.ownBlock ≠ some mb := fun e => by have h1 := h.lv mb e; rw [h.lm] at h1; omega
  refine ⟨lfoot g p mb Lf gv', ⟨p, mb, ts, Lf, gv', labN lab w.heap.size 3, ⟨hr, h.pool.of_block (ho p h.pool.lt hpg hvp), h.map.same (ho mb h.map.lt hmg hvm), fun i hi => (h.tab i hi).same (fun b c => ho b ((h.tab i hi).inb b c) (fun e => ?_) (fun e => ?_)), hc, ?_, ?_, ?_, fun b e => ?_, fun i hi b c => ?_⟩, fun _ => Iff.rfl⟩,
    ⟨hf.1, hf.2.1, hf.2.2.1, hf.2.2.2.1, fun b hb hnn => hf.2.2.2.2 b hb (fun c => hnn ((hF b).2 (c.elim (fun e => Or.inl e) (fun e => Or.inr (Or.inr (Or.inr (Or.inl e)))))))⟩, ?_⟩
  · have h1 := h.lT i hi b c; rw [e, h.lg] at h1; omega
  · have h1 := h.lT i hi b c; rw [h.lv b e] at h1; omega
  · rw [labN_lt hgl, h.lg]
  · rw [labN_lt h.pool.lt, h.lp]
  · rw [labN_lt h.map.lt, h.lm]
  · rcases hn b e with q | q
    · rw [labN_lt (World.ownsRow.lt h.gos b q).2, h.lv b q]
    · unfold labN; rw [if_neg (by omega)]
  · rw [labN_lt ((h.tab i hi).inb b c)]
    exact h.lT i hi b c
  · rintro b (e | e | e | e | e)
    · exact Or.inl ((hF b).2 (Or.inl e))
    · exact Or.inl ((hF b).2 (Or.inr (Or.inl e)))
    · exact Or.inl ((hF b).2 (Or.inr (Or.inr (Or.inl e))))
    · rcases hn b e with q | q
      · exact Or.inl ((hF b).2 (Or.inr (Or.inr (Or.inr (Or.inl q)))))
      · exact Or.inr q
    · exact Or.inl ((hF b).2 (Or.inr (Or.inr (Or.inr (Or.inr e)))))
end

section
variable {w : World} {g p mb : Nat} {S : St} {ls lt : Nat → Int} {ts : Nat → Option Nat} {Lf : Nat → Nat → Prop} {gv : Value} {lab : Nat → Nat} {F : Nat → Prop}
theorem LM.c0 (h : LM w g S p mb ls lt ts Lf gv lab) : w.cell? ⟨g, 0, none⟩ = some (.pointer (some ⟨p, 0, none⟩)) := h.row.cell (by omega)
theorem LM.c1 (h : LM w g S p mb ls lt ts Lf gv lab) : w.cell? ⟨g, 1, none⟩ = some (.map (some mb)) := h.row.cell (by omega)
theorem LM.c2 (h : LM w g S p mb ls lt ts Lf gv lab) : w.cell? ⟨g, 2, none⟩ = some (.int .i64 S.now) := h.row.cell (by omega)
theorem LM.cS (h : LM w g S p mb ls lt ts Lf gv lab) {k : Nat} (hk : k < 256) : w.cell? ⟨g, 3 + k * 2, none⟩ = some (.int .i64 (ls k)) := by rw [h.row.cell (by omega), lF_set hk]
theorem LM.cT (h : LM w g S p mb ls lt ts Lf gv lab) {k : Nat} (hk : k < 256) : w.cell? ⟨g, 3 + k * 2 + 1, none⟩ = some (.int .i64 (lt k)) := by rw [h.row.cell (by omega), lF_tick hk]
theorem LM.c515 (h : LM w g S p mb ls lt ts Lf gv lab) : w.cell? ⟨g, 515, none⟩ = some gv := h.row.cell (by omega)
theorem CM.join {w w1 w2 : World} {g : Nat} {S : St} {ls lt : Nat → Int} {F F' : Nat → Prop} (hfr : Fr w w1 F) (hn : ∀ b, F' b → F b ∨ w.heap.size ≤ b) (k : CM w1 w2 g F' S ls lt) : CM w w2 g F S ls lt := by
  obtain ⟨F'', k1, k2, k3⟩ := k
  refine ⟨F'', k1, ⟨k2.1.trans hfr.1, k2.2.1.trans hfr.2.1, k2.2.2.1.trans hfr.2.2.1, Nat.le_trans hfr.2.2.2.1 k2.2.2.2.1, fun b hb hnn => ?_⟩, fun b hb => ?_⟩
  · refine (k2.2.2.2.2 b (Nat.lt_of_lt_of_le hb hfr.2.2.2.1) (fun c => ?_)).trans (hfr.2.2.2.2 b hb hnn)
    rcases hn b c with d | d
    · exact hnn d
    · omega
  · rcases k3 b hb with d | d
    · exact hn b d
    · exact Or.inr (Nat.le_trans hfr.2.2.2.1 d)
theorem TM.drewN (h : TM w mb ts) (n : Nat) : TM (w.drewN n) mb ts := h
theorem ix_any {id : Int} (ho : idOk id = true) : ∃ k : Nat, k < 256 ∧ (id % 256).toNat = k ∧ ∀ w', Calls Tryz.prog 87 #[.int .i64 id] w' fun e w'' => e = .returned (.int .i64 (k : Int)) ∧ w' = w'' := by
  obtain ⟨i, q, hi, hq, hx, ht, hd⟩ := id_parts ho
  exact ⟨i, hi, by omega, fun w' => (qindex id w').mono fun _ _ ⟨he, hw⟩ => ⟨by rw [he, if_pos ho, show id % 256 = (i : Int) by omega], hw⟩⟩

set_option maxHeartbeats 2000000 in
set_option maxRecDepth 100000 in
theorem lfind_any (h : LM w g S p mb ls lt ts Lf gv lab) (id : Int) (ho : idOk id = true) {i a : Nat} (hi : i < 32) (hl : ls (id % 256).toNat = (i : Int)) (hts : ts i = some a) (hR : (S.T i).length ≤ 1000) :
    Calls Tryz.prog 85 #[.pointer (some ⟨g, 0, none⟩), .int .i64 id] w fun e w' => e = .returned (.tuple #[.pointer (some ⟨a, 0, none⟩), .int .i64 (findI (S.T i) id)]) ∧ Below w.heap.size w w' := by
  obtain ⟨k, hk, hk2, hix⟩ := ix_any ho
  have HIx := Lib.hid hix
  have c1 := h.c1
  have cs := h.cS hk
  rw [← hk2, hl] at cs
  have hm := h.map.get hi
  rw [hts] at hm
  have hm2 : ∀ n, (Instr.lookup 112 (.map (some mb)) (.int .i64 i) false).run Tryz.prog (w.drewN n) = .ok (.pointer (some ⟨a, 0, none⟩)) (w.drewN n) := fun n => by
    have := (h.map.drewN n).get hi
    rw [hts] at this
    exact this
  have ht := h.tab i hi
  rw [hts] at ht
  replace ht : TBl w a (Lf i) i (S.T i) := ht
  have HFd : Hid (∀ n, Calls Tryz.prog 120 #[.pointer (some ⟨a, 0, none⟩), .int .i64 id] (w.drewN n) fun e w' => e = .returned (.int .i64 (findI (S.T i) id)) ∧ (w.drewN n) = w') := Lib.hid (fun n => by
    have ht' : TBl (w.drewN n) a (Lf i) i (S.T i) := TBl.keep ht (Go.below_drewN (Below.refl _ _) n)
    obtain ⟨v, h1, _⟩ := ht'
    exact find_any h1 hR id)
  have hg := h.row.lt
  have k0 : (0 : Int) ≤ (k : Int) := by omega
  have k1 : (k : Int) < 256 := by omega
  rw [hk2] at cs
  clear h ht hts hl hR ho hix hk2 hm
  go_enter Tryz.func85, Tryz.ntmps85
  go_wp2
  go_quiet (first | (go_at_call 87; refine Calls.quiet_of_same ((HIx.out _).mono fun _ _ q => ⟨q.1, q.2.symm⟩)))
  go_wp2_with fail
  refine (HFd.out _).mono ?_
  rintro e w2 ⟨rfl, rfl⟩
  go_wp2
  go_ret2
  exact ⟨rfl, Go.below_drewN (Below.refl _ _) nq⟩

set_option maxHeartbeats 2000000 in
set_option maxRecDepth 100000 in
theorem lremove_any (h : LM w g S p mb ls lt ts Lf gv lab) (hF : ∀ b, F b ↔ lfoot g p mb Lf gv b) (id : Int) (ho : idOk id = true) {i a : Nat} (hi : i < 32) (hl : ls (id % 256).toNat = (i : Int)) (hts : ts i = some a) (hR : (S.T i).length ≤ 1000) :
    Calls Tryz.prog 97 #[.pointer (some ⟨g, 0, none⟩), .int .i64 id] w fun e w' => e = .returned (.tuple #[]) ∧ CM w w' g F { S with T := upf S.T i (tcuR (S.T i) (findI (S.T i) id)) } ls lt := by
  have HFi := Lib.hid (lfind_any h id ho hi hl hts hR)
  have HC : Hid (∀ u, Below w.heap.size w u → Calls Tryz.prog 133 #[.pointer (some ⟨a, 0, none⟩), .int .i64 (findI (S.T i) id)] u fun e w' => ∃ x y : Int, e = .returned (.tuple #[.int .i64 x, .int .i64 y]) ∧ CM w w' g F { S with T := upf S.T i (tcuR (S.T i) (findI (S.T i) id)) } ls lt) := Lib.hid (fun u k => by
    have h1 := h.keep k
    have ht := h1.tab i hi
    rw [hts] at ht
    refine (tcut_any u a (Lf i) i (S.T i) (findI (S.T i) id) hR ht).mono ?_
    rintro e w' ⟨L', rfl, t1, t2, t3⟩
    exact ⟨_, _, rfl, (h1.tabled hF hi hts t1 t2 t3).of k⟩)
  obtain ⟨q, hq⟩ : ∃ q, q = findI (S.T i) id := ⟨_, rfl⟩
  obtain ⟨S', hS'⟩ : ∃ S', S' = { S with T := upf S.T i (tcuR (S.T i) (findI (S.T i) id)) } := ⟨_, rfl⟩
  rw [← hS'] at HC
  rw [← hS']
  rw [← hq] at HFi HC
  clear h hF hq hS' hl hts hR ho
  go_enter Tryz.func97, Tryz.ntmps97
  go_wp2_with fail
  refine HFi.out.mono ?_
  rintro e w1 ⟨rfl, b1⟩
  have B1 := Lib.hid b1
  clear b1
  go_wp2_with fail
  refine (HC.out _ B1.out).mono ?_
  rintro e w2 ⟨x, y, rfl, hc⟩
  have HC2 := Lib.hid hc
  clear hc
  go_wp2
  go_end0
  exact ⟨rfl, HC2.out⟩

set_option maxHeartbeats 2000000 in
set_option maxRecDepth 100000 in
theorem lneed_old (h : LM w g S p mb ls lt ts Lf gv lab) {i a : Nat} (hi : i < 32) (hts : ts i = some a) :
    Calls Tryz.prog 127 #[.pointer (some ⟨g, 0, none⟩), .int .i64 i] w fun e w' => e = .returned (.pointer (some ⟨a, 0, none⟩)) ∧ w = w' := by
  have c1 := h.c1
  have hm := h.map.get hi
  rw [hts] at hm
  replace hm : (Instr.lookup 112 (.map (some mb)) (.int .i64 i) false).run Tryz.prog w = .ok (.pointer (some ⟨a, 0, none⟩)) w := hm
  have hg := h.row.lt
  clear h hts
  go_enter Tryz.func127, Tryz.ntmps127
  go_wp2
  go_ret
  exact ⟨rfl, rfl⟩
set_option maxHeartbeats 2000000 in
set_option maxRecDepth 100000 in
theorem lneed_new (h : LM w g S p mb ls lt ts Lf gv lab) (hF : ∀ b, F b ↔ lfoot g p mb Lf gv b) {i : Nat} (hi : i < 32) (hts : ts i = none) :
    Calls Tryz.prog 127 #[.pointer (some ⟨g, 0, none⟩), .int .i64 i] w fun e w' => ∃ a L' lab', e = .returned (.pointer (some ⟨a, 0, none⟩)) ∧ LM w' g S p mb ls lt (upf ts i (some a)) (upf Lf i L') gv lab' ∧ Fr w w' F ∧ ∀ b, lfoot g p mb (upf Lf i L') gv b → F b ∨ w.heap.size ≤ b := by
  have c1 := h.c1
  have hm := h.map.get hi
  rw [hts] at hm
  replace hm : (Instr.lookup 112 (.map (some mb)) (.int .i64 i) false).run Tryz.prog w = .ok (.pointer none) w := hm
  have hg := h.row.lt
  have HN : Hid (∀ u, Below w.heap.size w u → Calls Tryz.prog 161 #[.int .i64 i] u fun e w1 => ∃ a, e = .returned (.tuple #[.pointer (some ⟨a, 0, none⟩), .int .i64 0]) ∧ ∃ w2, (Instr.mapUpdate 112 (.map (some mb)) (.int .i64 i) (.pointer (some ⟨a, 0, none⟩))).run Tryz.prog w1 = .ok () w2 ∧ (∃ L' lab', LM w2 g S p mb ls lt (upf ts i (some a)) (upf Lf i L') gv lab' ∧ Fr w w2 F ∧ ∀ b, lfoot g p mb (upf Lf i L') gv b → F b ∨ w.heap.size ≤ b) ∧ w1.cell? ⟨g, 1, none⟩ = some (.map (some mb)) ∧ w2.cell? ⟨g, 1, none⟩ = some (.map (some mb)) ∧ g < w2.heap.size ∧ (Instr.lookup 112 (.map (some mb)) (.int .i64 i) false).run Tryz.prog w2 = .ok (.pointer (some ⟨a, 0, none⟩)) w2) := Lib.hid (fun u k => by
    refine (new_any u i (by omega)).mono ?_
    rintro e w1 ⟨a, L', rfl, t1, t2, t3⟩
    have hb : Below w.heap.size w w1 := bthen k t3
    obtain ⟨w2, hr, m1, m2⟩ := ((h.keep hb).map).put hi a
    have hX := h.need hF hi hts hb t1 (fun b c => Nat.le_trans k.size (t2 b c)) m1 m2
    have hq := m1.get hi
    rw [show upf ts i (some a) i = some a by unfold upf; rw [if_pos rfl]] at hq
    exact ⟨a, rfl, w2, hr, ⟨L', _, hX⟩, (h.keep hb).c1, hX.1.c1, hX.1.row.lt, hq⟩)
  clear h hF hts
  go_enter Tryz.func127, Tryz.ntmps127
  go_wp2
  go_region_held3 (fun w' => w'.cell? ⟨g, 1, none⟩ = some (.map (some mb))) (first | exact c1 | go_keep)
    (first | (go_at_call 161; refine (HN.out _ (bdrewn (Below.refl _ _))).mono ?_; rintro e w1 ⟨a, rfl, w2, hrun, hrest, c2, c3, z3, hl3⟩; have HR := Lib.hid hrest; clear hrest))
  go_wp2
  go_ret
  obtain ⟨L', lab', hx⟩ := HR.out
  exact ⟨a, L', lab', rfl, hx⟩

theorem lneed_any (h : LM w g S p mb ls lt ts Lf gv lab) (hF : ∀ b, F b ↔ lfoot g p mb Lf gv b) {i : Nat} (hi : i < 32) :
    Calls Tryz.prog 127 #[.pointer (some ⟨g, 0, none⟩), .int .i64 i] w fun e w' => ∃ a ts' Lf' lab', e = .returned (.pointer (some ⟨a, 0, none⟩)) ∧ ts' i = some a ∧ LM w' g S p mb ls lt ts' Lf' gv lab' ∧ Fr w w' F ∧ ∀ b, lfoot g p mb Lf' gv b → F b ∨ w.heap.size ≤ b := by
  cases hts : ts i with
  | some a => exact (lneed_old h hi hts).mono fun _ _ ⟨he, hw⟩ => ⟨a, ts, Lf, lab, he, hts, hw ▸ h, hw ▸ fr_refl _ _, fun b c => Or.inl ((hF b).2 c)⟩
  | none => exact (lneed_new h hF hi hts).mono fun _ _ ⟨a, L', lab', he, hx, hf, hn⟩ => ⟨a, _, _, lab', he, by unfold upf; rw [if_pos rfl], hx, hf, hn⟩
end
theorem pxs (P : PT) : PXs (pl P) := ⟨pl_len _, pl_size _, pl_size' _, pl_one _⟩
section
variable {w : World} {g p mb : Nat} {S : St} {ls lt : Nat → Int} {ts : Nat → Option Nat} {Lf : Nat → Nat → Prop} {gv : Value} {lab : Nat → Nat} {F : Nat → Prop}
theorem LM.added {a : Nat} (h : LM w g S p mb ls lt ts Lf gv lab) (hF : ∀ b, F b ↔ lfoot g p mb Lf gv b) {i : Nat} (hi : i < 32) (hts : ts i = some a) (hR : (S.T i).length ≤ 1000) (id : Int) (P : PT) :
    Calls Tryz.prog 128 #[.pointer (some ⟨a, 0, none⟩), .int .i64 id, .agg (pl P).toArray] w fun e w' => ∃ x y : Int, e = .returned (.tuple #[.int .i64 x, .int .i64 y]) ∧ CM w w' g F { S with T := upf S.T i (tadR i (S.T i) id P) } ls lt := by
  have ht := h.tab i hi
  rw [hts] at ht
  refine (tadd_any w a (Lf i) i (S.T i) id P hR ht).mono ?_
  rintro e w' ⟨L', rfl, t1, t2, t3⟩
  exact ⟨_, _, rfl, h.tabled hF hi hts t1 t2 t3⟩
theorem CM.blk {w w' : World} {g : Nat} {S : St} {ls lt : Nat → Int} {F : Nat → Prop} (h : CM w w' g F S ls lt) {b : Nat} (hb : b < w.heap.size) (hn : ¬ F b) : w'.heap[b]? = w.heap[b]? := by
  obtain ⟨F', h1, h2, h3⟩ := h
  exact h2.2.2.2.2 b hb hn
set_option maxHeartbeats 4000000 in
set_option maxRecDepth 100000 in
theorem ladd_any (h0 : LB w g F S ls lt) (id : Int) (ho : idOk id = true) (P : PT) {i : Nat} (hi : i < 32) (hP : P.1 = (i : Int)) (hR : (S.T i).length ≤ 1000) :
    Calls Tryz.prog 93 #[.pointer (some ⟨g, 0, none⟩), .int .i64 id, .agg (pl P).toArray] w fun e w' => e = .returned (.tuple #[]) ∧ CM w w' g F { S with T := upf S.T i (tadR i (S.T i) id P) } (upf ls (id % 256).toNat i) (upf lt (id % 256).toNat S.now) := by
  obtain ⟨k, hk, hk2, hix⟩ := ix_any ho
  have HIx := Lib.hid hix
  rw [hk2]
  have hcP : (pl P)[0]? = some (.int .i64 (i : Int)) := by rw [← hP]; rfl
  obtain ⟨U, hU⟩ : ∃ U, U = (w.alloc (.cells (pl P).toArray 43)) := ⟨_, rfl⟩
  have hUB : Below w.heap.size w U := by rw [hU]; exact alloc_below _ _
  obtain ⟨S1, hS1⟩ : ∃ S1, S1 = { S with T := upf S.T i (tadR i (S.T i) id P) } := ⟨_, rfl⟩
  have hnow : S1.now = S.now := by rw [hS1]
  have hFw : ¬ F w.heap.size := by
    obtain ⟨p, mb, ts, Lf, gv, lab, h, hF⟩ := h0
    exact fun c => by have := h.inb _ ((hF _).1 c); omega
  have HNd : Hid (Calls Tryz.prog 127 #[.pointer (some ⟨g, 0, none⟩), .int .i64 i] U.drew fun e w1 => ∃ a, e = .returned (.pointer (some ⟨a, 0, none⟩)) ∧ w1.heap[w.heap.size]? = U.heap[w.heap.size]? ∧ Calls Tryz.prog 128 #[.pointer (some ⟨a, 0, none⟩), .int .i64 id, .agg (pl P).toArray] w1 fun e w2 => ∃ x y : Int, e = .returned (.tuple #[.int .i64 x, .int .i64 y]) ∧ CM U w2 g F S1 ls lt ∧ w2.heap[w.heap.size]? = U.heap[w.heap.size]?) := Lib.hid (by
    obtain ⟨p, mb, ts, Lf, gv, lab, h, hF⟩ := h0
    have hbd : Below U.heap.size U U.drew := bdrewn (Below.refl _ _)
    refine (lneed_any ((h.keep hUB).keep hbd) hF hi).mono ?_
    rintro e w1 ⟨a, ts', Lf', lab', rfl, hts, h1, h2, h3⟩
    have hw : w.heap.size < U.heap.size := by rw [hU]; simp
    have hcm : CM U w1 g F S ls lt := CM.of ⟨lfoot g p mb Lf' gv, ⟨p, mb, ts', Lf', gv, lab', h1, fun _ => Iff.rfl⟩, h2, h3⟩ hbd
    refine ⟨a, rfl, hcm.blk hw hFw, ?_⟩
    refine (h1.added (fun _ => Iff.rfl) hi hts hR id P).mono ?_
    rintro e w2 ⟨x, y, rfl, h4⟩
    have hcm2 : CM U w2 g F S1 ls lt := by
      rw [hS1]
      exact (CM.join h2 h3 h4).of hbd
    exact ⟨x, y, rfl, hcm2, hcm2.blk hw hFw⟩)
  obtain ⟨X, hX⟩ : ∃ X, X = pl P := ⟨_, rfl⟩
  have HX : Hid (PXs X) := Lib.hid (by rw [hX]; exact pxs P)
  rw [← hX] at HNd hcP hU ⊢
  rw [← hS1]
  have hBU : Blk U w.heap.size 43 X.toArray := by rw [hU]; exact Blk.new w _ _
  have HKB : Hid (∀ u : World, u.heap[w.heap.size]? = U.heap[w.heap.size]? → u.rangeAt w.heap.size 0 X ∧ u.cell? ⟨w.heap.size, 0, none⟩ = some (.int .i64 (i : Int)) ∧ w.heap.size < u.heap.size) := Lib.hid (fun u e => by
    have hb := hBU.same e
    refine ⟨blk_whole hb, ?_, hb.lt⟩
    rw [hb.cell]
    simpa using hcP)
  have HUB := Lib.hid hUB
  have HFw := Lib.hid hFw
  have HNow := Lib.hid hnow
  have HLB := Lib.hid h0
  have hgl := h0.inH
  have HU := Lib.hid hU
  clear hU h0 hX hS1 hBU hUB hFw hnow hR hP hix ho hk2 hcP
  go_enter Tryz.func93, Tryz.ntmps93
  go_upto_region 1 with fail
  refine fin (fun W => W = U) HU.out.symm ?_
  rintro W rfl
  clear HU
  obtain ⟨U, hUW⟩ : ∃ U, U = W := ⟨_, rfl⟩
  subst hUW
  obtain ⟨q1, q2, q3⟩ := HKB.out U rfl
  refine wp_region_held_drew (S := fun w' => w'.cell? ⟨w.heap.size, 0, none⟩ = some (.int .i64 (i : Int)) ∧ w'.rangeAt w.heap.size 0 X) (by kernel_rfl) (⟨q2, q1⟩) (fun hHeld => ?_)
  refine tk 0 hHeld ?_
  refine tk 1 hHeld ?_
  refine wpAnyH_take (i := 2) (v := ?_) rfl (by kernel_rfl) (by kernel_rfl) (by kernel_rfl) (fun _ _ _ h => h) (Or.inl ⟨by rfl, ?_⟩) hHeld ?_
  rotate_left
  · intro w hSw
    have hc := hSw.1
    go_simp
    with_reducible rfl
  simp only [Act.put, List.getElem_toArray, List.getElem_cons_zero, List.getElem_cons_succ, List.setIfInBounds_toArray, List.set_cons_zero, List.set_cons_succ]
  refine tk 4 hHeld ?_
  refine tkl 5 rfl (yieldsIf_load_mid (by rfl) _ _ rfl _ _ rfl _ _ (fun _ h => h.2) Tryz.underlying43 rfl HX.out.2.1) hHeld ?_
  refine rd 3 (fun K hK => ?_)
  go_simp
  go_at_call 127
  refine (HNd.out).mono ?_
  rintro e w1 ⟨a, rfl, e1, hadd⟩
  have HE1 := Lib.hid e1
  have HAdd := Lib.hid hadd
  clear e1 hadd
  go_wp2_with fail
  refine hK.out _ _ (⟨(HKB.out _ HE1.out).2.1, (HKB.out _ HE1.out).1⟩) (fun hHeld => ?_)
  clear hK K
  refine rd 6 (fun K hK => ?_)
  go_simp
  go_at_call 128
  refine (HAdd.out).mono ?_
  rintro e w2 ⟨x, y, rfl, hcm, e2⟩
  have HE2 := Lib.hid e2
  have HCM := Lib.hid hcm
  clear e2 hcm
  go_wp2_with fail
  refine hK.out _ _ (⟨(HKB.out _ HE2.out).2.1, (HKB.out _ HE2.out).1⟩) (fun hHeld => ?_)
  clear hK K
  refine wpAnyH_done (by kernel_rfl) ?_ _
  refine fin (fun W => W = w2) rfl ?_
  rintro W rfl
  obtain ⟨F', ⟨p, mb, ts, Lf, gv, lab, h, hF⟩, hfr, hnw⟩ := HCM.out
  obtain ⟨r1, cb, r3⟩ := HKB.out _ HE2.out
  have c2 := h.c2
  rw [HNow.out] at c2
  have cs := h.cS hk
  have ct := h.cT hk
  have fs := h.row.frozen (3 + k * 2)
  have ft := h.row.frozen (3 + k * 2 + 1)
  have HH := Lib.hid h
  have HFF := Lib.hid (And.intro hF (And.intro hfr hnw))
  have k0 : (0 : Int) ≤ (k : Int) := by omega
  have k1 : (k : Int) < 256 := by omega
  have hgW : g < W.heap.size := h.row.lt
  have hne : g ≠ w.heap.size := by omega
  have hrow2 := (h.row.set (3 + k * 2) (.int .i64 (i : Int))).set (3 + k * 2 + 1) (.int .i64 S.now)
  have HS3 : Hid (((W.setCell ⟨g, 3 + k * 2, none⟩ (.int .i64 (i : Int))).setCell ⟨g, 3 + k * 2 + 1, none⟩ (.int .i64 S.now)).drew.cell? ⟨w.heap.size, 0, none⟩ = some (.int .i64 (i : Int)) ∧ ((W.setCell ⟨g, 3 + k * 2, none⟩ (.int .i64 (i : Int))).setCell ⟨g, 3 + k * 2 + 1, none⟩ (.int .i64 S.now)).drew.cell? ⟨g, 2, none⟩ = some (.int .i64 S.now)) := Lib.hid ⟨by
    refine (HKB.out _ ?_).2.1
    refine Eq.trans ?_ HE2.out
    show ((W.setCell ⟨g, 3 + k * 2, none⟩ (.int .i64 (i : Int))).setCell ⟨g, 3 + k * 2 + 1, none⟩ (.int .i64 S.now)).heap[w.heap.size]? = _
    rw [Go.Deep.blk_setCell_other _ _ _ _ (by show w.heap.size ≠ g; omega), Go.Deep.blk_setCell_other _ _ _ _ (by show w.heap.size ≠ g; omega)], by
    have := hrow2.drew.cell (i := 2) (by omega)
    rw [this, if_neg (by omega), if_neg (by omega)]
    show some (lF p mb S1.now ls lt gv 2) = _
    rw [← HNow.out]; rfl⟩
  have HR2 : Hid (((W.setCell ⟨g, 3 + k * 2, none⟩ (.int .i64 (i : Int))).setCell ⟨g, 3 + k * 2 + 1, none⟩ (.int .i64 S.now)).drew.rowIs g 118 516 (lF p mb S1.now (upf ls k i) (upf lt k S.now) gv)) := Lib.hid (hrow2.drew.congr (fun j hj => by
    rw [← lF_upTick hk, ← lF_upSet hk]))
  clear h hF hfr hnw r1 hrow2
  go_wp2
  go_region_held3 (fun w' => w'.cell? ⟨w.heap.size, 0, none⟩ = some (.int .i64 (i : Int)) ∧ w'.cell? ⟨g, 2, none⟩ = some (.int .i64 S.now)) (first | exact ⟨cb, c2⟩ | exact HS3.out | go_keep)
    (first | (go_at_call 87; refine (HIx.out _).mono ?_; rintro e w3 ⟨rfl, rfl⟩))
  go_wp2
  go_end0
  refine ⟨rfl, ?_⟩
  refine CM.of (w1 := U) ?_ HUB.out
  have hlast := LM.cells (F := F') HH.out HFF.out.1 (now' := S1.now) (grown_trans (grown_set W g _ _) (grown_set _ g _ _)) HR2.out
  exact CM.join HFF.out.2.1 HFF.out.2.2 (hlast.back (bdrewn (Below.refl _ _)))
end
end Go.Proofs.YtkondkajpmafkaaGreat
