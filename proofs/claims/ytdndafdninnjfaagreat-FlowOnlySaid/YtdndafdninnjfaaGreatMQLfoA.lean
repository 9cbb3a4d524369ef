/-
  Maps from names as functions: what is looked up, put and deleted; the landed forest's two maps.
-/
import Derived.Test.YtdndafdninnjfaaGreatMFof
import Derived.Test.YtdndafdninnjfaaGreatMQShg
import Derived.Maps.OwnSet
import Derived.Lib.SlKeysI
namespace Go.Proofs.YtdndafdninnjfaaGreat
open Go.RowKit

theorem id_law : Go.Maps.Keyed Tryz.prog 41 := Go.Maps.int_keyed Tryz.underlying41
theorem id_key {x : Int} (h : Rg x) : keyOf Tryz.prog 41 (.int .i64 x) = some (.int .i64 x) := by
  refine Go.Maps.keyOf_int_mk Tryz.underlying41 ?_
  show (decide (IntKind.i64.min ≤ x) && decide (x ≤ IntKind.i64.max)) = true
  rw [decide_eq_true (show IntKind.i64.min ≤ x from h.1), decide_eq_true (show x ≤ IntKind.i64.max from h.2)]
  rfl
/-- what a map's elements are -/
structure MK (α : Type) where
  t : TypeId
  e : TypeId
  V : Option α → Value
  E : Option α → DataW Unit
  R : Value → Option (DataW Unit × List MemPlace)
  ht : Tryz.prog.underlying t = some (.map 41 e)
  hz : ∀ w, (zeroValue e).run Tryz.prog w = .ok (V none) w
  rv : ∀ o, R (V o) = some (E o, [])
  inv : ∀ v o ps, R v = some (E o, ps) → v = V o
/-- a map that is a function -/
def MF {α : Type} (k : MK α) (w : World) (mb : Nat) (m : Int → Option α) : Prop := ∃ D : DataW Unit, w.ownsMap Tryz.prog 41 k.R mb 100000 D ∧ (∀ x, Rg x → D.atKey (.int .i64 x) (k.E none) = k.E (m x) ∧ Maps.has D (.int .i64 x) = (m x).isSome) ∧ ∀ x : Int, Maps.has D (.int .i64 x) = true → Rg x
def upm {α : Type} (m : Int → Option α) (x : Int) (o : Option α) (y : Int) : Option α := if y = x then o else m y
/-! how many entries -/
def ddI : List Int → List Int
  | [] => []
  | x :: l => if x ∈ l then ddI l else x :: ddI l
theorem mem_ddI {z : Int} : ∀ {l : List Int}, z ∈ ddI l ↔ z ∈ l
  | [] => Iff.rfl
  | x :: l => by
    unfold ddI
    by_cases c : x ∈ l
    · rw [if_pos c, mem_ddI, List.mem_cons]
      exact ⟨Or.inr, fun h => h.elim (fun e => e ▸ c) id⟩
    · rw [if_neg c, List.mem_cons, List.mem_cons, mem_ddI]
theorem nod_ddI : ∀ l : List Int, (ddI l).Nodup
  | [] => List.nodup_nil
  | x :: l => by
    unfold ddI
    by_cases c : x ∈ l
    · rw [if_pos c]; exact nod_ddI l
    · rw [if_neg c]; exact List.nodup_cons.2 ⟨fun h => c (mem_ddI.1 h), nod_ddI l⟩
theorem len_ddI : ∀ l : List Int, (ddI l).length ≤ l.length
  | [] => Nat.le_refl _
  | x :: l => by
    have ih := len_ddI l
    unfold ddI
    by_cases c : x ∈ l
    · rw [if_pos c, List.length_cons]; omega
    · rw [if_neg c, List.length_cons, List.length_cons]; omega
theorem own_small9 {R : Value → Option (DataW Unit × List MemPlace)} {w : World} {mb n : Nat} {D : DataW Unit} (hw : w.ownsMap Tryz.prog 41 R mb n D) (K : List Int) (hK : ∀ x : Int, Maps.has D (.int .i64 x) = true → x ∈ K) : Maps.size D ≤ K.length := by
  have hp : (ddI (K.filter fun x => Maps.has D (.int .i64 x))).Perm (intKeys D) := CollectedI.perm (left := fun _ => false) ⟨nod_ddI _, fun x => by
    rw [mem_ddI, List.mem_filter]
    exact ⟨fun h => ⟨h.2, rfl⟩, fun h => ⟨hK x h.1, h.1⟩⟩⟩ hw id_law Tryz.underlying41 (fun _ => rfl)
  have h1 := hp.length_eq
  have h2 := len_ddI (K.filter fun x => Maps.has D (.int .i64 x))
  have h3 := List.length_filter_le (fun x => Maps.has D (.int .i64 x)) K
  obtain ⟨es, rfl, _⟩ := hw.entries id_law
  unfold intKeys at h1
  rw [List.length_map] at h1
  rw [Maps.size_eq]
  omega
theorem own_size9 {R : Value → Option (DataW Unit × List MemPlace)} {w : World} {mb n m : Nat} {D : DataW Unit} (hw : w.ownsMap Tryz.prog 41 R mb n D) (h : Maps.size D ≤ m) : w.ownsMap Tryz.prog 41 R mb m D := by
  obtain ⟨es, clock, hb, F, hs, hD⟩ := hw
  refine ⟨es, clock, hb, F, ?_, hD⟩
  have e1 : Maps.size D = es.size := by rw [hD]; simp [Maps.size, length_sorted]
  omega
section
variable {α : Type} {k : MK α} {w w' : World} {mb : Nat} {m : Int → Option α} {x : Int}
theorem MF.lt (h : MF k w mb m) : mb < w.heap.size := by
  obtain ⟨D, hD, _⟩ := h
  exact hD.lt
theorem MF.same (h : MF k w mb m) (he : w'.heap[mb]? = w.heap[mb]?) : MF k w' mb m := by
  obtain ⟨D, ⟨es, clock, hb, F, hs, hD⟩, hk⟩ := h
  exact ⟨D, ⟨es, clock, he.trans hb, F, hs, hD⟩, hk⟩
theorem MF.keep (h : MF k w mb m) (hb : Below w.heap.size w w') : MF k w' mb m := h.same (hb.block mb h.lt)
theorem MF.eq (h : MF k w mb m) {m' : Int → Option α} (he : ∀ x, Rg x → m' x = m x) : MF k w mb m' := by
  obtain ⟨D, hD, hk, hr⟩ := h
  exact ⟨D, hD, fun x hx => by rw [he x hx]; exact hk x hx, hr⟩
theorem MF.new (k : MK α) (w : World) : MF k (w.alloc (.map #[] 0)) w.heap.size (fun _ => none) :=
  ⟨.map [], (World.ownsMap_made w _ _ _).mono (by omega), fun _ _ => ⟨rfl, rfl⟩, fun x h => by cases h⟩
theorem MF.look (h : MF k w mb m) (hx : Rg x) : (Instr.lookup k.t (.map (some mb)) (.int .i64 x) true).run Tryz.prog w = .ok (.tuple #[k.V (m x), .bool (m x).isSome]) w := by
  obtain ⟨D, hD, hk, _⟩ := h
  obtain ⟨v, ps, hrun, hv⟩ := hD.look_ok id_law k.ht (k.hz w) (k.rv none) (id_key hx)
  rw [(hk x hx).1] at hv
  rw [hrun, k.inv v _ _ hv, (hk x hx).2]
theorem MF.get (h : MF k w mb m) (hx : Rg x) : (Instr.lookup k.t (.map (some mb)) (.int .i64 x) false).run Tryz.prog w = .ok (k.V (m x)) w := by
  obtain ⟨D, hD, hk, _⟩ := h
  obtain ⟨v, ps, hrun, hv⟩ := hD.lookup id_law k.ht (k.hz w) (k.rv none) (id_key hx)
  rw [(hk x hx).1] at hv
  rw [hrun, k.inv v _ _ hv]
theorem MF.put (h : MF k w mb m) (hx : Rg x) (a : α) (K : List Int) (hK : ∀ y, (upm m x (some a) y).isSome = true → y ∈ K) (hKl : K.length ≤ 100000) :
    ∃ w', (Instr.mapUpdate k.t (.map (some mb)) (.int .i64 x) (k.V (some a))).run Tryz.prog w = .ok () w' ∧ MF k w' mb (upm m x (some a)) ∧ w.grownBy w' (some mb) := by
  obtain ⟨D, hD, hk, hr⟩ := h
  obtain ⟨w', hrun, h1, h2⟩ := hD.update id_law k.ht (by unfold maxLen; omega) (id_key hx) (k.rv (some a))
  have hm : Maps.IsMap D := hD.isMap
  have hL : WideAt.IsKeyLit (.int .i64 x) := trivial
  have hne : ∀ {y : Int}, y ≠ x → (Lit.int .i64 y) ≠ .int .i64 x := fun hy e => by injection e with _ e; exact hy e
  have hr' : ∀ y : Int, Maps.has (D.put (.int .i64 x) (k.E (some a))) (.int .i64 y) = true → Rg y := fun y hy => by
    by_cases c : y = x
    · rw [c]; exact hx
    · rw [Maps.has_put_other (hne c)] at hy
      exact hr y hy
  have hk' : ∀ y, Rg y → (D.put (.int .i64 x) (k.E (some a))).atKey (.int .i64 y) (k.E none) = k.E (upm m x (some a) y) ∧ Maps.has (D.put (.int .i64 x) (k.E (some a))) (.int .i64 y) = (upm m x (some a) y).isSome := fun y hy => by
    unfold upm
    by_cases c : y = x
    · subst c
      rw [if_pos rfl, Maps.atKey_put_same hm hL, Maps.has_put_same hm hL]
      exact ⟨rfl, rfl⟩
    · rw [if_neg c, Maps.atKey_put_other (hne c), Maps.has_put_other (hne c)]
      exact hk y hy
  have hs := own_small9 h1 K (fun y hy => hK y (by rw [← (hk' y (hr' y hy)).2]; exact hy))
  exact ⟨w', hrun, ⟨_, own_size9 h1 (Nat.le_trans hs hKl), hk', hr'⟩, h2⟩
theorem MF.del (h : MF k w mb m) (hx : Rg x) :
    ∃ w', (∀ ty, (Builtin.delete_ #[k.t, 41] ty #[.map (some mb), .int .i64 x]).run Tryz.prog w = .ok (.tuple #[]) w') ∧ MF k w' mb (upm m x none) ∧ w.grownBy w' (some mb) := by
  obtain ⟨D, hD, hk, hr⟩ := h
  obtain ⟨w', hrun, h1, h2⟩ := hD.drop id_law k.ht (id_key hx) 0
  have hne : ∀ {y : Int}, y ≠ x → (Lit.int .i64 y) ≠ .int .i64 x := fun hy e => by injection e with _ e; exact hy e
  refine ⟨w', fun _ => hrun, ⟨_, h1, fun y hy => ?_, fun y hy => ?_⟩, h2.grown⟩
  · unfold upm
    by_cases c : y = x
    · subst c
      rw [if_pos rfl, Maps.atKey_del_same, Maps.has_del_same]
      exact ⟨rfl, rfl⟩
    · rw [if_neg c, Maps.atKey_del_other (hne c), Maps.has_del_other (hne c)]
      exact hk y hy
  · by_cases c : y = x
    · rw [c]; exact hx
    · rw [Maps.has_del_other (hne c)] at hy
      exact hr y hy
end
/-! the two maps -/
theorem zv_id (w : World) : (zeroValue 41).run Tryz.prog w = .ok (.int .i64 0) w := by kernel_rfl
theorem zv_ids (w : World) : (zeroValue 24).run Tryz.prog w = .ok (.slice none 0 0) w := by kernel_rfl
def pR : Value → Option (DataW Unit × List MemPlace)
  | .int .i64 y => some (.lit (.int .i64 y), [])
  | _ => none
def pK : MK Int where
  t := 98
  e := 41
  V o := .int .i64 (parV o)
  E o := .lit (.int .i64 (parV o))
  R := pR
  ht := Tryz.underlying98
  hz := zv_id
  rv o := rfl
  inv v o ps h := by
    unfold pR at h
    split at h
    · simp at h
      rw [h.1]
    · cases h
def cV : Option (Nat × Nat × Nat) → Value
  | none => .slice none 0 0
  | some (b, n, c) => .slice (some ⟨b, 0, none⟩) n c
def cE : Option (Nat × Nat × Nat) → DataW Unit
  | none => .nil
  | some (b, n, c) => .agg [.lit (.int .i64 b), .lit (.int .i64 n), .lit (.int .i64 c)]
def cR : Value → Option (DataW Unit × List MemPlace)
  | .slice none n c => if n = 0 ∧ c = 0 then some (.nil, []) else none
  | .slice (some a) n c => if a = ⟨a.block, 0, none⟩ then some (.agg [.lit (.int .i64 a.block), .lit (.int .i64 n), .lit (.int .i64 c)], []) else none
  | _ => none
theorem cR_V (o : Option (Nat × Nat × Nat)) : cR (cV o) = some (cE o, []) := by
  cases o with
  | none => rfl
  | some q => obtain ⟨b, n, c⟩ := q; simp [cV, cR, cE]
theorem cR_inv (v : Value) (o : Option (Nat × Nat × Nat)) (ps : List MemPlace) (h : cR v = some (cE o, ps)) : v = cV o := by
  unfold cR at h
  split at h
  · rename_i n c
    by_cases q : n = 0 ∧ c = 0
    · rw [if_pos q] at h
      obtain ⟨rfl, rfl⟩ := q
      cases o with
      | none => rfl
      | some q => obtain ⟨b, n, c⟩ := q; simp [cE] at h
    · rw [if_neg q] at h; cases h
  · rename_i a n c
    by_cases q : a = ⟨a.block, 0, none⟩
    · rw [if_pos q] at h
      cases o with
      | none => simp [cE] at h
      | some z =>
        obtain ⟨b, n', c'⟩ := z
        simp [cE] at h
        obtain ⟨⟨h1, h2, h3⟩, _⟩ := h
        have e1 : a.block = b := by omega
        have e2 : n = n' := by omega
        have e3 : c = c' := by omega
        subst e2 e3
        show _ = Value.slice (some ⟨b, 0, none⟩) n c
        rw [q, e1]
    · rw [if_neg q] at h; cases h
  · cases h
def cK : MK (Nat × Nat × Nat) where
  t := 99
  e := 24
  V := cV
  E := cE
  R := cR
  ht := Tryz.underlying99
  hz := zv_ids
  rv := cR_V
  inv := cR_inv
/-- a deletion of the walk -/
theorem wpList_del9 {ops : Array Oper} {rest : List Oper} {op : Oper} {a : Go.Act} {w w' : World} {Q : Exit → Go.Act → World → Prop} (hgd : op.guard = none) (tm tx : Operand) (t k : TypeId)
    (ho : op.op = .call { callee := .builtin .delete, args := #[tm, tx], argTypes := #[t, k] }) (v u : Value) (hm : a.eval tm = v) (hx : a.eval tx = u)
    (hr : (Builtin.delete_ #[t, k] op.type #[v, u]).run Tryz.prog w = .ok (.tuple #[]) w') (h : wpList Tryz.prog ops Q rest (a.put op.dst (.tuple #[])) w') : wpList Tryz.prog ops Q (op :: rest) a w := by
  refine wpList_plain hgd fun K hK => ?_
  have h3 := hK _ _ h
  unfold Oper.wp execOp
  simp only [ho, resolve, invoke, builtin, Sem.run_bind, Sem.run_pure, Result.andThen_ok, List.map_toArray, List.map_cons, List.map_nil, hm, hx, hr]
  exact h3

end Go.Proofs.YtdndafdninnjfaaGreat
