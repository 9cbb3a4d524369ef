/-
  13 texts in one file, each with its own heading.
-/
import Derived.Test.YtkondkajpmafkaaGreatMP31
import Derived.Test.YtkondkajpmafkaaGreatMP03
import Derived.Shelf.SlicesG.Cells
import Derived.Shelf.SlicesG.SearchI
import Derived.Test.YtkondkajpmafkaaGreatProg
import Derived.Test.YtkondkajpmafkaaGreatMP30
import Derived.Maps.OwnSet
import Derived.Lib.SlKeysI
/-
  Rows that the call itself has laid; what the reference's with and Names of layer 10 answer.
-/
namespace Go.Proofs.YtkondkajpmafkaaGreat
open Go.RowKit

def OwnX {α : Type} (k : Nat) (c : α → List Value) (t : TypeId) (w : World) (base : Nat) (v : Value) (X : List α) : Prop := w.ownsRow base t k v X.length (X.flatMap c)
section
variable {α : Type} {k : Nat} {c : α → List Value} {t : TypeId} {w w' : World} {base : Nat} {v : Value} {X : List α}
theorem OwnX.nil (k : Nat) (c : α → List Value) (t : TypeId) (w : World) (base : Nat) : OwnX k c t w base (.slice none 0 0) [] := World.ownsRow_nil _ _ _ _
theorem OwnX.lt (h : OwnX k c t w base v X) : ∀ b, v.ownBlock = some b → base ≤ b ∧ b < w.heap.size := World.ownsRow.lt h
theorem OwnX.same (h : OwnX k c t w base v X) (he : ∀ b, v.ownBlock = some b → w'.heap[b]? = w.heap[b]?) : OwnX k c t w' base v X :=
  ⟨h.1, h.2.imp id fun ⟨g, cap, cur, e, hb, hg, hr⟩ => ⟨g, cap, cur, e, hb, (he g (by rw [e]; rfl)).trans hg, hr⟩⟩
theorem OwnX.keep (h : OwnX k c t w base v X) (hb : Below w.heap.size w w') : OwnX k c t w' base v X := h.same (fun b e => hb.block b (h.lt b e).2)
end
theorem zN_info : (Tryz.prog.info? 101).map (fun i => (i.zero, i.size, i.bytes)) = some (some (.agg (cNd default).toArray), 15, 120) := by kernel_rfl
theorem cNd_one (n : Nd) : ∀ u ∈ cNd n, u.oneCell' = true := fun u hu => by
  unfold cNd at hu
  simp only [List.mem_cons, List.not_mem_nil, or_false] at hu
  rcases hu with h | h | h | h | h | h | h | h | h | h | h | h | h | h | h <;> (rw [h]; rfl)
structure NX (X : List Value) (n : Nd) : Prop where
  eq : X = cNd n
  len : X.length = 15
  size : (Tryz.prog.info? 101).map (·.size) = some X.length
  one : ∀ u ∈ X, u.oneCell' = true
  bs : ∀ W, (Instr.buildSlice 104 1 #[(0, .agg X.toArray)]).run Tryz.prog W = .ok (.slice (some ⟨W.heap.size, 0, none⟩) 1 1) (W.alloc (.cells X.toArray 101))
theorem bs_node (n : Nd) (W : World) : (Instr.buildSlice 104 1 #[(0, .agg (cNd n).toArray)]).run Tryz.prog W = .ok (.slice (some ⟨W.heap.size, 0, none⟩) 1 1) (W.alloc (.cells (cNd n).toArray 101)) := by kernel_rfl
section
variable {w w' : World} {g : Nat} {D : FD} {vl vd vs : Value} {F : Nat → Prop}
end
theorem below_drew9f (w : World) : Below w.heap.size w w.drew := ⟨rfl, rfl, rfl, Nat.le_refl _, fun _ _ => rfl⟩
section
variable {w : World} {g : Nat} {D : FD} {vl vd vs : Value}
end
section
variable {w : World} {g : Nat} {D : FD} {vl vd vs : Value}
end
theorem wpList_bld3f {ops : Array Oper} {rest : List Oper} {op : Oper} {a : Go.Act} {w : World} {Q : Exit → Go.Act → World → Prop} (hgd : op.guard = none) (t : TypeId) (x y z : Operand) (ho : op.op = .build t #[(0, x), (1, y), (2, z)]) (vx vy vz vr : Value) (hx : a.eval x = vx) (hy : a.eval y = vy) (hz : a.eval z = vz)
    (hrun : ∀ W, (Instr.build t #[(0, vx), (1, vy), (2, vz)]).run Tryz.prog W = .ok vr W)
    (h : wpList Tryz.prog ops Q rest (a.put op.dst vr) w) : wpList Tryz.prog ops Q (op :: rest) a w :=
  wpList_plain hgd fun K hK => by
    have h2 := hK _ _ h
    unfold Oper.wp execOp
    simp only [ho]
    simp [hx, hy, hz, hrun]
    exact h2
def lM (M : Nat → Int) : List Value := [.int .i64 (M 0), .int .i64 (M 1), .int .i64 (M 2), .int .i64 (M 3), .int .i64 (M 4), .int .i64 (M 5), .int .i64 (M 6), .int .i64 (M 7), .int .i64 (M 8), .int .i64 (M 9), .int .i64 (M 10), .int .i64 (M 11)]
structure MX (X : List Value) (M : Nat → Int) : Prop where
  eq : X = lM M
  len : X.length = 12
  size : (Tryz.prog.info? 37).map (·.size) = some X.length
  sizea : (Tryz.prog.info? 37).map (·.size) = some X.toArray.size
  onea : X.toArray.all (·.oneCell') = true
theorem lM_one (M : Nat → Int) : ∀ u ∈ lM M, u.oneCell' = true := fun u hu => by
  unfold lM at hu
  simp only [List.mem_cons, List.not_mem_nil, or_false] at hu
  rcases hu with h | h | h | h | h | h | h | h | h | h | h | h <;> (rw [h]; rfl)
theorem mx_any (M : Nat → Int) : MX (lM M) M := ⟨rfl, rfl, by kernel_rfl, by kernel_rfl, all_oneCell_toArray (lM_one M)⟩
section
variable {δ : Type} {FB : World → Nat → (Nat → Prop) → δ → Prop} {w w1 w2 : World} {g : Nat} {F F' : Nat → Prop} {D : δ}
end
section
variable {w wb w4 : World} {g : Nat} {D : FD} {vl vd vs : Value} {F : Nat → Prop}
end
section
variable {w w' : World} {g : Nat} {D : FD} {vs : Value} {F : Nat → Prop}
end
theorem mat_at {w : World} {b o : Nat} {n : Nd} (h : w.rangeAt b o (cNd n)) : w.rangeAt b (o + 2) (lM n.pl) := fun j v hv => by
  have hj : j < 12 := by have := (List.getElem?_eq_some_iff.1 hv).1; exact this
  have := h (2 + j) v (by
    have e : (cNd n)[2 + j]? = (lM n.pl)[j]? := by
      match j, hj with
      | 0, _ => rfl
      | 1, _ => rfl
      | 2, _ => rfl
      | 3, _ => rfl
      | 4, _ => rfl
      | 5, _ => rfl
      | 6, _ => rfl
      | 7, _ => rfl
      | 8, _ => rfl
      | 9, _ => rfl
      | 10, _ => rfl
      | 11, _ => rfl
    rw [e]; exact hv)
  rwa [← Nat.add_assoc] at this
section
variable {w : World} {g : Nat} {D : FD} {F : Nat → Prop}
end
section
variable {w : World} {g : Nat} {D : FD} {F : Nat → Prop}
end
section
variable {w : World} {g : Nat} {D : FD} {vl vd vs : Value} {F : Nat → Prop}
end
section
variable {w : World} {g : Nat} {D : FD} {vl vd vs : Value}
end
end Go.Proofs.YtkondkajpmafkaaGreat
namespace Go.Proofs.YtkondkajpmafkaaGreat
open Go.Shelf
def lay_delB_ren : Go.Shelf.Ren := ⟨fun | 45 => 131 | n => n, fun | 22 => 53 | 23 => 31 | 3 => 3 | 4 => 4 | 0 => 0 | n => n, fun | n => n⟩
theorem lay_delB : Go.Proofs.SlLaysN.n45 Tryz.prog lay_delB_ren := {
  mixed := by kernel_rfl
  f45 := ⟨Tryz.f131.name, by decide, Tryz.func131.trans (congrArg some (by kernel_rfl))⟩
  t0 := Tryz.underlying0
  a0 := Tryz.isAgg0
  z0 := Tryz.sizeOf0
  v0 := Tryz.zeroValue0
  t3 := Tryz.underlying3
  a3 := Tryz.isAgg3
  z3 := Tryz.sizeOf3
  v3 := Tryz.zeroValue3
  t4 := Tryz.underlying4
  a4 := Tryz.isAgg4
  z4 := Tryz.sizeOf4
  v4 := Tryz.zeroValue4
  t22 := Tryz.underlying53
  a22 := Tryz.isAgg53
  z22 := Tryz.sizeOf53
  v22 := Tryz.zeroValue53
  t23 := Tryz.underlying31
  a23 := Tryz.isAgg31
  z23 := Tryz.sizeOf31
  v23 := Tryz.zeroValue31
  i23 := by kernel_rfl }
def lay_findB_ren : Go.Shelf.Ren := ⟨fun | 49 => 130 | 59 => 153 | 60 => 164 | 68 => 179 | n => n, fun | 22 => 53 | 23 => 31 | 3 => 3 | 4 => 4 | 51 => 170 | 0 => 0 | n => n, fun | n => n⟩
theorem lay_findB : Go.Proofs.SlLaysN.n49 Tryz.prog lay_findB_ren := {
  mixed := by kernel_rfl
  f49 := ⟨Tryz.f130.name, by decide, Tryz.func130.trans (congrArg some (by kernel_rfl))⟩
  f59 := ⟨Tryz.f153.name, by decide, Tryz.func153.trans (congrArg some (by kernel_rfl))⟩
  f60 := ⟨Tryz.f164.name, by decide, Tryz.func164.trans (congrArg some (by kernel_rfl))⟩
  f68 := ⟨Tryz.f179.name, by decide, Tryz.func179.trans (congrArg some (by kernel_rfl))⟩
  t0 := Tryz.underlying0
  a0 := Tryz.isAgg0
  z0 := Tryz.sizeOf0
  v0 := Tryz.zeroValue0
  t3 := Tryz.underlying3
  a3 := Tryz.isAgg3
  z3 := Tryz.sizeOf3
  v3 := Tryz.zeroValue3
  t4 := Tryz.underlying4
  a4 := Tryz.isAgg4
  z4 := Tryz.sizeOf4
  v4 := Tryz.zeroValue4
  t22 := Tryz.underlying53
  a22 := Tryz.isAgg53
  z22 := Tryz.sizeOf53
  v22 := Tryz.zeroValue53
  t23 := Tryz.underlying31
  a23 := Tryz.isAgg31
  z23 := Tryz.sizeOf31
  v23 := Tryz.zeroValue31
  t51 := Tryz.underlying170
  a51 := Tryz.isAgg170
  z51 := Tryz.sizeOf170
  v51 := Tryz.zeroValue170 }
end Go.Proofs.YtkondkajpmafkaaGreat
namespace Go.Proofs.YtkondkajpmafkaaGreat
open Go.RowKit

theorem id_law : Go.Maps.Keyed Tryz.prog 31 := Go.Maps.int_keyed Tryz.underlying31
theorem id_key {x : Int} (h : Rg x) : keyOf Tryz.prog 31 (.int .i64 x) = some (.int .i64 x) := by
  refine Go.Maps.keyOf_int_mk Tryz.underlying31 ?_
  show (decide (IntKind.i64.min ≤ x) && decide (x ≤ IntKind.i64.max)) = true
  rw [decide_eq_true (show IntKind.i64.min ≤ x from h.1), decide_eq_true (show x ≤ IntKind.i64.max from h.2)]
  rfl
structure MK (α : Type) where
  t : TypeId
  e : TypeId
  V : Option α → Value
  E : Option α → DataW Unit
  R : Value → Option (DataW Unit × List MemPlace)
  ht : Tryz.prog.underlying t = some (.map 31 e)
  hz : ∀ w, (zeroValue e).run Tryz.prog w = .ok (V none) w
  rv : ∀ o, R (V o) = some (E o, [])
  inv : ∀ v o ps, R v = some (E o, ps) → v = V o
def MF {α : Type} (k : MK α) (w : World) (mb : Nat) (m : Int → Option α) : Prop := ∃ D : DataW Unit, w.ownsMap Tryz.prog 31 k.R mb 100000 D ∧ (∀ x, Rg x → D.atKey (.int .i64 x) (k.E none) = k.E (m x) ∧ Maps.has D (.int .i64 x) = (m x).isSome) ∧ ∀ x : Int, Maps.has D (.int .i64 x) = true → Rg x
def upm {α : Type} (m : Int → Option α) (x : Int) (o : Option α) (y : Int) : Option α := if y = x then o else m y
def ddI : List Int → List Int
  | [] => []
  | x :: l => if x ∈ l then ddI l else x :: ddI l
theorem mem_ddI {z : Int} : ∀ {l : List Int}, z ∈ ddI l ↔ z ∈ l
  | [] => Iff.rfl
  | x :: l => by
    unfold ddI
    by_cases c : x ∈ l
    · rw [if_pos c, mem_ddI, List.mem_cons]
      exact ⟨Or.inr, fun h => h.elim (fun e => e ▸ c) id⟩
    · rw [if_neg c, List.mem_cons, List.mem_cons, mem_ddI]
theorem nod_ddI : ∀ l : List Int, (ddI l).Nodup
  | [] => List.nodup_nil
  | x :: l => by
    unfold ddI
    by_cases c : x ∈ l
    · rw [if_pos c]; exact nod_ddI l
    · rw [if_neg c]; exact List.nodup_cons.2 ⟨fun h => c (mem_ddI.1 h), nod_ddI l⟩
theorem len_ddI : ∀ l : List Int, (ddI l).length ≤ l.length
  | [] => Nat.le_refl _
  | x :: l => by
    have ih := len_ddI l
    unfold ddI
    by_cases c : x ∈ l
    · rw [if_pos c, List.length_cons]; omega
    · rw [if_neg c, List.length_cons, List.length_cons]; omega
theorem own_small9 {R : Value → Option (DataW Unit × List MemPlace)} {w : World} {mb n : Nat} {D : DataW Unit} (hw : w.ownsMap Tryz.prog 31 R mb n D) (K : List Int) (hK : ∀ x : Int, Maps.has D (.int .i64 x) = true → x ∈ K) : Maps.size D ≤ K.length := by
  have hp : (ddI (K.filter fun x => Maps.has D (.int .i64 x))).Perm (intKeys D) := CollectedI.perm (left := fun _ => false) ⟨nod_ddI _, fun x => by
    rw [mem_ddI, List.mem_filter]
    exact ⟨fun h => ⟨h.2, rfl⟩, fun h => ⟨hK x h.1, h.1⟩⟩⟩ hw id_law Tryz.underlying31 (fun _ => rfl)
  have h1 := hp.length_eq
  have h2 := len_ddI (K.filter fun x => Maps.has D (.int .i64 x))
  have h3 := List.length_filter_le (fun x => Maps.has D (.int .i64 x)) K
  obtain ⟨es, rfl, _⟩ := hw.entries id_law
  unfold intKeys at h1
  rw [List.length_map] at h1
  rw [Maps.size_eq]
  omega
theorem own_size9 {R : Value → Option (DataW Unit × List MemPlace)} {w : World} {mb n m : Nat} {D : DataW Unit} (hw : w.ownsMap Tryz.prog 31 R mb n D) (h : Maps.size D ≤ m) : w.ownsMap Tryz.prog 31 R mb m D := by
  obtain ⟨es, clock, hb, F, hs, hD⟩ := hw
  refine ⟨es, clock, hb, F, ?_, hD⟩
  have e1 : Maps.size D = es.size := by rw [hD]; simp [Maps.size, length_sorted]
  omega
section
variable {α : Type} {k : MK α} {w w' : World} {mb : Nat} {m : Int → Option α} {x : Int}
theorem MF.lt (h : MF k w mb m) : mb < w.heap.size := by
  obtain ⟨D, hD, _⟩ := h
  exact hD.lt
theorem MF.same (h : MF k w mb m) (he : w'.heap[mb]? = w.heap[mb]?) : MF k w' mb m := by
  obtain ⟨D, ⟨es, clock, hb, F, hs, hD⟩, hk⟩ := h
  exact ⟨D, ⟨es, clock, he.trans hb, F, hs, hD⟩, hk⟩
theorem MF.keep (h : MF k w mb m) (hb : Below w.heap.size w w') : MF k w' mb m := h.same (hb.block mb h.lt)
theorem MF.eq (h : MF k w mb m) {m' : Int → Option α} (he : ∀ x, Rg x → m' x = m x) : MF k w mb m' := by
  obtain ⟨D, hD, hk, hr⟩ := h
  exact ⟨D, hD, fun x hx => by rw [he x hx]; exact hk x hx, hr⟩
theorem MF.new (k : MK α) (w : World) : MF k (w.alloc (.map #[] 0)) w.heap.size (fun _ => none) :=
  ⟨.map [], (World.ownsMap_made w _ _ _).mono (by omega), fun _ _ => ⟨rfl, rfl⟩, fun x h => by cases h⟩
theorem MF.look (h : MF k w mb m) (hx : Rg x) : (Instr.lookup k.t (.map (some mb)) (.int .i64 x) true).run Tryz.prog w = .ok (.tuple #[k.V (m x), .bool (m x).isSome]) w := by
  obtain ⟨D, hD, hk, _⟩ := h
  obtain ⟨v, ps, hrun, hv⟩ := hD.look_ok id_law k.ht (k.hz w) (k.rv none) (id_key hx)
  rw [(hk x hx).1] at hv
  rw [hrun, k.inv v _ _ hv, (hk x hx).2]
theorem MF.get (h : MF k w mb m) (hx : Rg x) : (Instr.lookup k.t (.map (some mb)) (.int .i64 x) false).run Tryz.prog w = .ok (k.V (m x)) w := by
  obtain ⟨D, hD, hk, _⟩ := h
  obtain ⟨v, ps, hrun, hv⟩ := hD.lookup id_law k.ht (k.hz w) (k.rv none) (id_key hx)
  rw [(hk x hx).1] at hv
  rw [hrun, k.inv v _ _ hv]
theorem MF.put (h : MF k w mb m) (hx : Rg x) (a : α) (K : List Int) (hK : ∀ y, (upm m x (some a) y).isSome = true → y ∈ K) (hKl : K.length ≤ 100000) :
    ∃ w', (Instr.mapUpdate k.t (.map (some mb)) (.int .i64 x) (k.V (some a))).run Tryz.prog w = .ok () w' ∧ MF k w' mb (upm m x (some a)) ∧ w.grownBy w' (some mb) := by
  obtain ⟨D, hD, hk, hr⟩ := h
  obtain ⟨w', hrun, h1, h2⟩ := hD.update id_law k.ht (by unfold maxLen; omega) (id_key hx) (k.rv (some a))
  have hm : Maps.IsMap D := hD.isMap
  have hL : WideAt.IsKeyLit (.int .i64 x) := trivial
  have hne : ∀ {y : Int}, y ≠ x → (Lit.int .i64 y) ≠ .int .i64 x := fun hy e => by injection e with _ e; exact hy e
  have hr' : ∀ y : Int, Maps.has (D.put (.int .i64 x) (k.E (some a))) (.int .i64 y) = true → Rg y := fun y hy => by
    by_cases c : y = x
    · rw [c]; exact hx
    · rw [Maps.has_put_other (hne c)] at hy
      exact hr y hy
  have hk' : ∀ y, Rg y → (D.put (.int .i64 x) (k.E (some a))).atKey (.int .i64 y) (k.E none) = k.E (upm m x (some a) y) ∧ Maps.has (D.put (.int .i64 x) (k.E (some a))) (.int .i64 y) = (upm m x (some a) y).isSome := fun y hy => by
    unfold upm
    by_cases c : y = x
    · subst c
      rw [if_pos rfl, Maps.atKey_put_same hm hL, Maps.has_put_same hm hL]
      exact ⟨rfl, rfl⟩
    · rw [if_neg c, Maps.atKey_put_other (hne c), Maps.has_put_other (hne c)]
      exact hk y hy
  have hs := own_small9 h1 K (fun y hy => hK y (by rw [← (hk' y (hr' y hy)).2]; exact hy))
  exact ⟨w', hrun, ⟨_, own_size9 h1 (Nat.le_trans hs hKl), hk', hr'⟩, h2⟩
theorem MF.del (h : MF k w mb m) (hx : Rg x) :
    ∃ w', (∀ ty, (Builtin.delete_ #[k.t, 31] ty #[.map (some mb), .int .i64 x]).run Tryz.prog w = .ok (.tuple #[]) w') ∧ MF k w' mb (upm m x none) ∧ w.grownBy w' (some mb) := by
  obtain ⟨D, hD, hk, hr⟩ := h
  obtain ⟨w', hrun, h1, h2⟩ := hD.drop id_law k.ht (id_key hx) 0
  have hne : ∀ {y : Int}, y ≠ x → (Lit.int .i64 y) ≠ .int .i64 x := fun hy e => by injection e with _ e; exact hy e
  refine ⟨w', fun _ => hrun, ⟨_, h1, fun y hy => ?_, fun y hy => ?_⟩, h2.grown⟩
  · unfold upm
    by_cases c : y = x
    · subst c
      rw [if_pos rfl, Maps.atKey_del_same, Maps.has_del_same]
      exact ⟨rfl, rfl⟩
    · rw [if_neg c, Maps.atKey_del_other (hne c), Maps.has_del_other (hne c)]
      exact hk y hy
  · by_cases c : y = x
    · rw [c]; exact hx
    · rw [Maps.has_del_other (hne c)] at hy
      exact hr y hy
end
theorem zv_id (w : World) : (zeroValue 31).run Tryz.prog w = .ok (.int .i64 0) w := by kernel_rfl
theorem zv_ids (w : World) : (zeroValue 53).run Tryz.prog w = .ok (.slice none 0 0) w := by kernel_rfl
def pR : Value → Option (DataW Unit × List MemPlace)
  | .int .i64 y => some (.lit (.int .i64 y), [])
  | _ => none
def pK : MK Int where
  t := 124
  e := 31
  V o := .int .i64 (parV o)
  E o := .lit (.int .i64 (parV o))
  R := pR
  ht := Tryz.underlying124
  hz := zv_id
  rv o := rfl
  inv v o ps h := by
    unfold pR at h
    split at h
    · simp at h
      rw [h.1]
    · cases h
def cV : Option (Nat × Nat × Nat) → Value
  | none => .slice none 0 0
  | some (b, n, c) => .slice (some ⟨b, 0, none⟩) n c
def cE : Option (Nat × Nat × Nat) → DataW Unit
  | none => .nil
  | some (b, n, c) => .agg [.lit (.int .i64 b), .lit (.int .i64 n), .lit (.int .i64 c)]
def cR : Value → Option (DataW Unit × List MemPlace)
  | .slice none n c => if n = 0 ∧ c = 0 then some (.nil, []) else none
  | .slice (some a) n c => if a = ⟨a.block, 0, none⟩ then some (.agg [.lit (.int .i64 a.block), .lit (.int .i64 n), .lit (.int .i64 c)], []) else none
  | _ => none
theorem cR_V (o : Option (Nat × Nat × Nat)) : cR (cV o) = some (cE o, []) := by
  cases o with
  | none => rfl
  | some q => obtain ⟨b, n, c⟩ := q; simp [cV, cR, cE]
theorem cR_inv (v : Value) (o : Option (Nat × Nat × Nat)) (ps : List MemPlace) (h : cR v = some (cE o, ps)) : v = cV o := by
  unfold cR at h
  split at h
  · rename_i n c
    by_cases q : n = 0 ∧ c = 0
    · rw [if_pos q] at h
      obtain ⟨rfl, rfl⟩ := q
      cases o with
      | none => rfl
      | some q => obtain ⟨b, n, c⟩ := q; simp [cE] at h
    · rw [if_neg q] at h; cases h
  · rename_i a n c
    by_cases q : a = ⟨a.block, 0, none⟩
    · rw [if_pos q] at h
      cases o with
      | none => simp [cE] at h
      | some z =>
        obtain ⟨b, n', c'⟩ := z
        simp [cE] at h
        obtain ⟨⟨h1, h2, h3⟩, _⟩ := h
        have e1 : a.block = b := by omega
        have e2 : n = n' := by omega
        have e3 : c = c' := by omega
        subst e2 e3
        show _ = Value.slice (some ⟨b, 0, none⟩) n c
        rw [q, e1]
    · rw [if_neg q] at h; cases h
  · cases h
def cK : MK (Nat × Nat × Nat) where
  t := 125
  e := 53
  V := cV
  E := cE
  R := cR
  ht := Tryz.underlying125
  hz := zv_ids
  rv := cR_V
  inv := cR_inv
theorem wpList_del9 {ops : Array Oper} {rest : List Oper} {op : Oper} {a : Go.Act} {w w' : World} {Q : Exit → Go.Act → World → Prop} (hgd : op.guard = none) (tm tx : Operand) (t k : TypeId)
    (ho : op.op = .call { callee := .builtin .delete, args := #[tm, tx], argTypes := #[t, k] }) (v u : Value) (hm : a.eval tm = v) (hx : a.eval tx = u)
    (hr : (Builtin.delete_ #[t, k] op.type #[v, u]).run Tryz.prog w = .ok (.tuple #[]) w') (h : wpList Tryz.prog ops Q rest (a.put op.dst (.tuple #[])) w') : wpList Tryz.prog ops Q (op :: rest) a w := by
  refine wpList_plain hgd fun K hK => ?_
  have h3 := hK _ _ h
  unfold Oper.wp execOp
  simp only [ho, resolve, invoke, builtin, Sem.run_bind, Sem.run_pure, Result.andThen_ok, List.map_toArray, List.map_cons, List.map_nil, hm, hx, hr]
  exact h3

end Go.Proofs.YtkondkajpmafkaaGreat
