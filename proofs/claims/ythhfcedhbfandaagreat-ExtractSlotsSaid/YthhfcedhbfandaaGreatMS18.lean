/-
  9 texts in one file, each with its own heading.
-/
import Derived.Test.YthhfcedhbfandaaGreatMS17
import Derived.Test.YthhfcedhbfandaaGreatMS08
import Derived.Maps.OwnSet
import Derived.Lib.SlKeysI
import Derived.Test.YthhfcedhbfandaaGreatMS15
import Derived.Shelf.SlicesG.Cells
import Derived.Shelf.SlicesG.SearchI
import Derived.Test.YthhfcedhbfandaaGreatProg
import Derived.Deep.LoopGhost
import Derived.Maps.AppendAt
import Derived.Shelf.Spec.SlicesInsertGrow
/-
  What the reference's State of layer 10 answers.
-/
namespace Go.Proofs.YthhfcedhbfandaaGreat
open Go.RowKit

section
variable {w : World} {g : Nat} {D : FD} {vl vd vs : Value}
end
theorem wp_join {P : Program} {c : Code} {a : Go.Act} {w : World} {Q : Exit → Go.Act → World → Prop} (fr : Nat → (Nat → Value) → Go.Act) (Φ : Nat → World → Prop)
    (h1 : c.wp P (fun e a' w' => e = .normal ∧ ∃ g f, a' = fr g f ∧ Φ g w') a w) (h2 : ∀ g f w', Φ g w' → Q .normal (fr g f) w') : c.wp P Q a w :=
  Code.wp_mono (fun e a' w' h => by
    obtain ⟨rfl, g, f, rfl, hp⟩ := h
    exact h2 g f w' hp) h1
theorem mk_join {fr : Nat → (Nat → Value) → Go.Act} {Φ : Nat → World → Prop} {a' : Go.Act} {w' : World} (g : Nat) (hp : Φ g w') (h : a' = fr g (fun i => a'.tmps.getD i undef)) : (Exit.normal = .normal) ∧ ∃ g f, a' = fr g f ∧ Φ g w' := ⟨rfl, g, _, h, hp⟩
def zNd : Nd := ⟨0, 0, fun _ => 0, false⟩
theorem fold_step {L : List Nd} {O : List Int} {j : Nat} {x : Int} (h : O[j]? = some x) (s : Acc) : (O.take (j + 1)).foldl (allA L) s = allA L ((O.take j).foldl (allA L) s) x := by
  rw [List.take_add_one, h, List.foldl_append]
  rfl
theorem order_nd {L : List Nd} (hW : WF (treesN L)) {x : Int} (hx : x ∈ orderN L) : ∃ n, elF Nd.id L x = some n := by
  have hin : x ∈ L.map Nd.id := by
    obtain ⟨y, hy, hz⟩ := (mem_undL hW).1 hx
    rcases hz with rfl | hz
    · exact (sortI_perm _).mem_iff.1 hy
    · have h1 := abv_fst hW hz
      rw [trees_fst] at h1
      obtain ⟨m, hm, e⟩ := List.mem_map.1 h1
      exact List.mem_map.2 ⟨m, (List.mem_filter.1 hm).1, e⟩
  cases h : elF Nd.id L x with
  | some n => exact ⟨n, rfl⟩
  | none =>
    obtain ⟨m, hm, e⟩ := List.mem_map.1 hin
    have := List.find?_eq_none.1 h m hm
    simp [e] at this
def Rg (x : Int) : Prop := -9223372036854775808 ≤ x ∧ x ≤ 9223372036854775807
instance (x : Int) : Decidable (Rg x) := by unfold Rg; exact inferInstance
def Rgs (xs : List Int) : Prop := ∀ x ∈ xs, Rg x
instance (xs : List Int) : Decidable (Rgs xs) := by unfold Rgs; exact inferInstance
theorem id_law : Go.Maps.Keyed Tryz.prog 81 := Go.Maps.int_keyed Tryz.underlying81
theorem id_key {x : Int} (h : Rg x) : keyOf Tryz.prog 81 (.int .i64 x) = some (.int .i64 x) := by
  refine Go.Maps.keyOf_int_mk Tryz.underlying81 ?_
  show (decide (IntKind.i64.min ≤ x) && decide (x ≤ IntKind.i64.max)) = true
  rw [decide_eq_true (show IntKind.i64.min ≤ x from h.1), decide_eq_true (show x ≤ IntKind.i64.max from h.2)]
  rfl
structure MK (α : Type) where
  t : TypeId
  e : TypeId
  V : Option α → Value
  E : Option α → DataW Unit
  R : Value → Option (DataW Unit × List MemPlace)
  ht : Tryz.prog.underlying t = some (.map 81 e)
  hz : ∀ w, (zeroValue e).run Tryz.prog w = .ok (V none) w
  rv : ∀ o, R (V o) = some (E o, [])
  inv : ∀ v o ps, R v = some (E o, ps) → v = V o
def MF {α : Type} (k : MK α) (w : World) (mb : Nat) (m : Int → Option α) : Prop := ∃ D : DataW Unit, w.ownsMap Tryz.prog 81 k.R mb 100000 D ∧ (∀ x, Rg x → D.atKey (.int .i64 x) (k.E none) = k.E (m x) ∧ Maps.has D (.int .i64 x) = (m x).isSome) ∧ ∀ x : Int, Maps.has D (.int .i64 x) = true → Rg x
def upm {α : Type} (m : Int → Option α) (x : Int) (o : Option α) (y : Int) : Option α := if y = x then o else m y
def ddI : List Int → List Int
  | [] => []
  | x :: l => if x ∈ l then ddI l else x :: ddI l
theorem mem_ddI {z : Int} : ∀ {l : List Int}, z ∈ ddI l ↔ z ∈ l
  | [] => Iff.rfl
  | x :: l => by
    unfold ddI
    by_cases c : x ∈ l
    · rw [if_pos c, mem_ddI, List.mem_cons]
      exact ⟨Or.inr, fun h => h.elim (fun e => e ▸ c) id⟩
    · rw [if_neg c, List.mem_cons, List.mem_cons, mem_ddI]
theorem nod_ddI : ∀ l : List Int, (ddI l).Nodup
  | [] => List.nodup_nil
  | x :: l => by
    unfold ddI
    by_cases c : x ∈ l
    · rw [if_pos c]; exact nod_ddI l
    · rw [if_neg c]; exact List.nodup_cons.2 ⟨fun h => c (mem_ddI.1 h), nod_ddI l⟩
theorem len_ddI : ∀ l : List Int, (ddI l).length ≤ l.length
  | [] => Nat.le_refl _
  | x :: l => by
    have ih := len_ddI l
    unfold ddI
    by_cases c : x ∈ l
    · rw [if_pos c, List.length_cons]; omega
    · rw [if_neg c, List.length_cons, List.length_cons]; omega
theorem own_small9 {R : Value → Option (DataW Unit × List MemPlace)} {w : World} {mb n : Nat} {D : DataW Unit} (hw : w.ownsMap Tryz.prog 81 R mb n D) (K : List Int) (hK : ∀ x : Int, Maps.has D (.int .i64 x) = true → x ∈ K) : Maps.size D ≤ K.length := by
  have hp : (ddI (K.filter fun x => Maps.has D (.int .i64 x))).Perm (intKeys D) := CollectedI.perm (left := fun _ => false) ⟨nod_ddI _, fun x => by
    rw [mem_ddI, List.mem_filter]
    exact ⟨fun h => ⟨h.2, rfl⟩, fun h => ⟨hK x h.1, h.1⟩⟩⟩ hw id_law Tryz.underlying81 (fun _ => rfl)
  have h1 := hp.length_eq
  have h2 := len_ddI (K.filter fun x => Maps.has D (.int .i64 x))
  have h3 := List.length_filter_le (fun x => Maps.has D (.int .i64 x)) K
  obtain ⟨es, rfl, _⟩ := hw.entries id_law
  unfold intKeys at h1
  rw [List.length_map] at h1
  rw [Maps.size_eq]
  omega
theorem own_size9 {R : Value → Option (DataW Unit × List MemPlace)} {w : World} {mb n m : Nat} {D : DataW Unit} (hw : w.ownsMap Tryz.prog 81 R mb n D) (h : Maps.size D ≤ m) : w.ownsMap Tryz.prog 81 R mb m D := by
  obtain ⟨es, clock, hb, F, hs, hD⟩ := hw
  refine ⟨es, clock, hb, F, ?_, hD⟩
  have e1 : Maps.size D = es.size := by rw [hD]; simp [Maps.size, length_sorted]
  omega
section
variable {α : Type} {k : MK α} {w w' : World} {mb : Nat} {m : Int → Option α} {x : Int}
theorem MF.lt (h : MF k w mb m) : mb < w.heap.size := by
  obtain ⟨D, hD, _⟩ := h
  exact hD.lt
theorem MF.same (h : MF k w mb m) (he : w'.heap[mb]? = w.heap[mb]?) : MF k w' mb m := by
  obtain ⟨D, ⟨es, clock, hb, F, hs, hD⟩, hk⟩ := h
  exact ⟨D, ⟨es, clock, he.trans hb, F, hs, hD⟩, hk⟩
theorem MF.keep (h : MF k w mb m) (hb : Below w.heap.size w w') : MF k w' mb m := h.same (hb.block mb h.lt)
theorem MF.eq (h : MF k w mb m) {m' : Int → Option α} (he : ∀ x, Rg x → m' x = m x) : MF k w mb m' := by
  obtain ⟨D, hD, hk, hr⟩ := h
  exact ⟨D, hD, fun x hx => by rw [he x hx]; exact hk x hx, hr⟩
theorem MF.new (k : MK α) (w : World) : MF k (w.alloc (.map #[] 0)) w.heap.size (fun _ => none) :=
  ⟨.map [], (World.ownsMap_made w _ _ _).mono (by omega), fun _ _ => ⟨rfl, rfl⟩, fun x h => by cases h⟩
theorem MF.look (h : MF k w mb m) (hx : Rg x) : (Instr.lookup k.t (.map (some mb)) (.int .i64 x) true).run Tryz.prog w = .ok (.tuple #[k.V (m x), .bool (m x).isSome]) w := by
  obtain ⟨D, hD, hk, _⟩ := h
  obtain ⟨v, ps, hrun, hv⟩ := hD.look_ok id_law k.ht (k.hz w) (k.rv none) (id_key hx)
  rw [(hk x hx).1] at hv
  rw [hrun, k.inv v _ _ hv, (hk x hx).2]
theorem MF.get (h : MF k w mb m) (hx : Rg x) : (Instr.lookup k.t (.map (some mb)) (.int .i64 x) false).run Tryz.prog w = .ok (k.V (m x)) w := by
  obtain ⟨D, hD, hk, _⟩ := h
  obtain ⟨v, ps, hrun, hv⟩ := hD.lookup id_law k.ht (k.hz w) (k.rv none) (id_key hx)
  rw [(hk x hx).1] at hv
  rw [hrun, k.inv v _ _ hv]
theorem MF.put (h : MF k w mb m) (hx : Rg x) (a : α) (K : List Int) (hK : ∀ y, (upm m x (some a) y).isSome = true → y ∈ K) (hKl : K.length ≤ 100000) :
    ∃ w', (Instr.mapUpdate k.t (.map (some mb)) (.int .i64 x) (k.V (some a))).run Tryz.prog w = .ok () w' ∧ MF k w' mb (upm m x (some a)) ∧ w.grownBy w' (some mb) := by
  obtain ⟨D, hD, hk, hr⟩ := h
  obtain ⟨w', hrun, h1, h2⟩ := hD.update id_law k.ht (by unfold maxLen; omega) (id_key hx) (k.rv (some a))
  have hm : Maps.IsMap D := hD.isMap
  have hL : WideAt.IsKeyLit (.int .i64 x) := trivial
  have hne : ∀ {y : Int}, y ≠ x → (Lit.int .i64 y) ≠ .int .i64 x := fun hy e => by injection e with _ e; exact hy e
  have hr' : ∀ y : Int, Maps.has (D.put (.int .i64 x) (k.E (some a))) (.int .i64 y) = true → Rg y := fun y hy => by
    by_cases c : y = x
    · rw [c]; exact hx
    · rw [Maps.has_put_other (hne c)] at hy
      exact hr y hy
  have hk' : ∀ y, Rg y → (D.put (.int .i64 x) (k.E (some a))).atKey (.int .i64 y) (k.E none) = k.E (upm m x (some a) y) ∧ Maps.has (D.put (.int .i64 x) (k.E (some a))) (.int .i64 y) = (upm m x (some a) y).isSome := fun y hy => by
    unfold upm
    by_cases c : y = x
    · subst c
      rw [if_pos rfl, Maps.atKey_put_same hm hL, Maps.has_put_same hm hL]
      exact ⟨rfl, rfl⟩
    · rw [if_neg c, Maps.atKey_put_other (hne c), Maps.has_put_other (hne c)]
      exact hk y hy
  have hs := own_small9 h1 K (fun y hy => hK y (by rw [← (hk' y (hr' y hy)).2]; exact hy))
  exact ⟨w', hrun, ⟨_, own_size9 h1 (Nat.le_trans hs hKl), hk', hr'⟩, h2⟩
theorem MF.del (h : MF k w mb m) (hx : Rg x) :
    ∃ w', (∀ ty, (Builtin.delete_ #[k.t, 81] ty #[.map (some mb), .int .i64 x]).run Tryz.prog w = .ok (.tuple #[]) w') ∧ MF k w' mb (upm m x none) ∧ w.grownBy w' (some mb) := by
  obtain ⟨D, hD, hk, hr⟩ := h
  obtain ⟨w', hrun, h1, h2⟩ := hD.drop id_law k.ht (id_key hx) 0
  have hne : ∀ {y : Int}, y ≠ x → (Lit.int .i64 y) ≠ .int .i64 x := fun hy e => by injection e with _ e; exact hy e
  refine ⟨w', fun _ => hrun, ⟨_, h1, fun y hy => ?_, fun y hy => ?_⟩, h2.grown⟩
  · unfold upm
    by_cases c : y = x
    · subst c
      rw [if_pos rfl, Maps.atKey_del_same, Maps.has_del_same]
      exact ⟨rfl, rfl⟩
    · rw [if_neg c, Maps.atKey_del_other (hne c), Maps.has_del_other (hne c)]
      exact hk y hy
  · by_cases c : y = x
    · rw [c]; exact hx
    · rw [Maps.has_del_other (hne c)] at hy
      exact hr y hy
end
def enc1 : Value → DataW Unit
  | .int k x => .lit (.int k x)
  | .bool b => .lit (.bool b)
  | _ => .nil
def simp1 (v : Value) : Prop := (∃ k x, v = .int k x) ∨ ∃ b, v = .bool b
theorem enc1_inj {v u : Value} (hu : simp1 u) (h : enc1 v = enc1 u) : v = u := by
  rcases hu with ⟨k, x, rfl⟩ | ⟨b, rfl⟩
  · cases v <;> simp [enc1] at h ⊢
    exact h
  · cases v <;> simp [enc1] at h ⊢
    exact h
def encA : Value → DataW Unit
  | .agg a => .agg (a.toList.map enc1)
  | _ => .nil
theorem enc_list : ∀ {xs l : List Value}, (∀ u ∈ l, simp1 u) → xs.map enc1 = l.map enc1 → xs = l
  | [], [], _, _ => rfl
  | [], _ :: _, _, h => by simp at h
  | _ :: _, [], _, h => by simp at h
  | x :: xs, y :: l, hl, h => by
    rw [List.map_cons, List.map_cons] at h
    injection h with h1 h2
    rw [enc1_inj (hl y List.mem_cons_self) h1, enc_list (fun u hu => hl u (List.mem_cons_of_mem _ hu)) h2]
theorem encA_inj {v : Value} {l : List Value} (hl : ∀ u ∈ l, simp1 u) (h : encA v = encA (.agg l.toArray)) : v = .agg l.toArray := by
  cases v with
  | agg a =>
    unfold encA at h
    injection h with h
    have := enc_list (xs := a.toList) (l := l) hl h
    rw [← this]
  | _ => simp [encA] at h
def mkA {α : Type} (t e : TypeId) (V : Option α → Value) (ht : Tryz.prog.underlying t = some (.map 81 e)) (hz : ∀ w, (zeroValue e).run Tryz.prog w = .ok (V none) w) (hV : ∀ o, ∃ l : List Value, V o = .agg l.toArray ∧ ∀ u ∈ l, simp1 u) : MK α where
  t := t
  e := e
  V := V
  E o := encA (V o)
  R v := some (encA v, [])
  ht := ht
  hz := hz
  rv o := rfl
  inv v o ps h := by
    simp at h
    obtain ⟨l, hl, hs⟩ := hV o
    rw [hl] at h ⊢
    exact encA_inj hs h.1
def LDr (F : Nat → Prop) (w w' : World) (xs : List Int) (v : Value) : Prop := ∃ a cap, v = .slice a xs.length cap ∧ Row w' a xs.length xs ∧ (xs.length = 0 ∨ ∀ ad, a = some ad → F ad.block ∨ w.heap.size ≤ ad.block)
def CapOk (v : Value) : Prop := ∃ a n cap, v = .slice a n cap ∧ n ≤ cap
section
variable {FB : World → Nat → (Nat → Prop) → FT → Prop}
structure Duo9 (FB : World → Nat → (Nat → Prop) → FT → Prop) (w0 w : World) (gp gr : Nat) (Fp Fq : Nat → Prop) (Lp Lq : FT) : Prop where
  p : FB w gp Fp Lp
  q : RFB w gr Fq Lq
  far : ∀ b, Fp b → ¬ Fq b
  low : Below w0.heap.size w0 w
  np : ∀ b, Fp b → w0.heap.size ≤ b
  nq : ∀ b, Fq b → w0.heap.size ≤ b
variable {w0 w w' : World} {gp gr : Nat} {Fp Fq : Nat → Prop} {Lp Lq Lp' Lq' : FT}
end
structure A9 where
  k : Int
  a : Option Addr
  n : Nat
  cap : Nat
  xs : List Int
end Go.Proofs.YthhfcedhbfandaaGreat
namespace Go.Proofs.YthhfcedhbfandaaGreat
open Go.Shelf
def lay_revB_ren : Go.Shelf.Ren := ⟨fun | 35 => 198 | n => n, fun | 22 => 35 | 23 => 81 | 3 => 3 | 4 => 4 | 0 => 0 | n => n, fun | n => n⟩
theorem lay_revB : Go.Proofs.SlLaysN.n35 Tryz.prog lay_revB_ren := {
  mixed := by kernel_rfl
  f35 := ⟨Tryz.f198.name, by decide, Tryz.func198.trans (congrArg some (by kernel_rfl))⟩
  t0 := Tryz.underlying0
  a0 := Tryz.isAgg0
  z0 := Tryz.sizeOf0
  v0 := Tryz.zeroValue0
  t3 := Tryz.underlying3
  a3 := Tryz.isAgg3
  z3 := Tryz.sizeOf3
  v3 := Tryz.zeroValue3
  t4 := Tryz.underlying4
  a4 := Tryz.isAgg4
  z4 := Tryz.sizeOf4
  v4 := Tryz.zeroValue4
  t22 := Tryz.underlying35
  a22 := Tryz.isAgg35
  z22 := Tryz.sizeOf35
  v22 := Tryz.zeroValue35
  t23 := Tryz.underlying81
  a23 := Tryz.isAgg81
  z23 := Tryz.sizeOf81
  v23 := Tryz.zeroValue81 }
def lay_compB_ren : Go.Shelf.Ren := ⟨fun | 43 => 253 | n => n, fun | 22 => 35 | 23 => 81 | 3 => 3 | 4 => 4 | 0 => 0 | n => n, fun | n => n⟩
theorem lay_compB : Go.Proofs.SlLaysN.n43 Tryz.prog lay_compB_ren := {
  mixed := by kernel_rfl
  f43 := ⟨Tryz.f253.name, by decide, Tryz.func253.trans (congrArg some (by kernel_rfl))⟩
  t0 := Tryz.underlying0
  a0 := Tryz.isAgg0
  z0 := Tryz.sizeOf0
  v0 := Tryz.zeroValue0
  t3 := Tryz.underlying3
  a3 := Tryz.isAgg3
  z3 := Tryz.sizeOf3
  v3 := Tryz.zeroValue3
  t4 := Tryz.underlying4
  a4 := Tryz.isAgg4
  z4 := Tryz.sizeOf4
  v4 := Tryz.zeroValue4
  t22 := Tryz.underlying35
  a22 := Tryz.isAgg35
  z22 := Tryz.sizeOf35
  v22 := Tryz.zeroValue35
  t23 := Tryz.underlying81
  a23 := Tryz.isAgg81
  z23 := Tryz.sizeOf81
  v23 := Tryz.zeroValue81
  i23 := by kernel_rfl }
def lay_delB_ren : Go.Shelf.Ren := ⟨fun | 45 => 183 | n => n, fun | 22 => 35 | 23 => 81 | 3 => 3 | 4 => 4 | 0 => 0 | n => n, fun | n => n⟩
theorem lay_delB : Go.Proofs.SlLaysN.n45 Tryz.prog lay_delB_ren := {
  mixed := by kernel_rfl
  f45 := ⟨Tryz.f183.name, by decide, Tryz.func183.trans (congrArg some (by kernel_rfl))⟩
  t0 := Tryz.underlying0
  a0 := Tryz.isAgg0
  z0 := Tryz.sizeOf0
  v0 := Tryz.zeroValue0
  t3 := Tryz.underlying3
  a3 := Tryz.isAgg3
  z3 := Tryz.sizeOf3
  v3 := Tryz.zeroValue3
  t4 := Tryz.underlying4
  a4 := Tryz.isAgg4
  z4 := Tryz.sizeOf4
  v4 := Tryz.zeroValue4
  t22 := Tryz.underlying35
  a22 := Tryz.isAgg35
  z22 := Tryz.sizeOf35
  v22 := Tryz.zeroValue35
  t23 := Tryz.underlying81
  a23 := Tryz.isAgg81
  z23 := Tryz.sizeOf81
  v23 := Tryz.zeroValue81
  i23 := by kernel_rfl }
def lay_findB_ren : Go.Shelf.Ren := ⟨fun | 49 => 182 | 59 => 208 | 60 => 244 | 68 => 261 | n => n, fun | 22 => 35 | 23 => 81 | 3 => 3 | 4 => 4 | 51 => 226 | 0 => 0 | n => n, fun | n => n⟩
theorem lay_findB : Go.Proofs.SlLaysN.n49 Tryz.prog lay_findB_ren := {
  mixed := by kernel_rfl
  f49 := ⟨Tryz.f182.name, by decide, Tryz.func182.trans (congrArg some (by kernel_rfl))⟩
  f59 := ⟨Tryz.f208.name, by decide, Tryz.func208.trans (congrArg some (by kernel_rfl))⟩
  f60 := ⟨Tryz.f244.name, by decide, Tryz.func244.trans (congrArg some (by kernel_rfl))⟩
  f68 := ⟨Tryz.f261.name, by decide, Tryz.func261.trans (congrArg some (by kernel_rfl))⟩
  t0 := Tryz.underlying0
  a0 := Tryz.isAgg0
  z0 := Tryz.sizeOf0
  v0 := Tryz.zeroValue0
  t3 := Tryz.underlying3
  a3 := Tryz.isAgg3
  z3 := Tryz.sizeOf3
  v3 := Tryz.zeroValue3
  t4 := Tryz.underlying4
  a4 := Tryz.isAgg4
  z4 := Tryz.sizeOf4
  v4 := Tryz.zeroValue4
  t22 := Tryz.underlying35
  a22 := Tryz.isAgg35
  z22 := Tryz.sizeOf35
  v22 := Tryz.zeroValue35
  t23 := Tryz.underlying81
  a23 := Tryz.isAgg81
  z23 := Tryz.sizeOf81
  v23 := Tryz.zeroValue81
  t51 := Tryz.underlying226
  a51 := Tryz.isAgg226
  z51 := Tryz.sizeOf226
  v51 := Tryz.zeroValue226 }
end Go.Proofs.YthhfcedhbfandaaGreat
namespace Go.Proofs.YthhfcedhbfandaaGreat
open Go.RowKit

theorem zv_id (w : World) : (zeroValue 81).run Tryz.prog w = .ok (.int .i64 0) w := by kernel_rfl
theorem zv_ids (w : World) : (zeroValue 35).run Tryz.prog w = .ok (.slice none 0 0) w := by kernel_rfl
def pR : Value → Option (DataW Unit × List MemPlace)
  | .int .i64 y => some (.lit (.int .i64 y), [])
  | _ => none
def pK : MK Int where
  t := 139
  e := 81
  V o := .int .i64 (parV o)
  E o := .lit (.int .i64 (parV o))
  R := pR
  ht := Tryz.underlying139
  hz := zv_id
  rv o := rfl
  inv v o ps h := by
    unfold pR at h
    split at h
    · simp at h
      rw [h.1]
    · cases h
def cV : Option (Nat × Nat × Nat) → Value
  | none => .slice none 0 0
  | some (b, n, c) => .slice (some ⟨b, 0, none⟩) n c
def cE : Option (Nat × Nat × Nat) → DataW Unit
  | none => .nil
  | some (b, n, c) => .agg [.lit (.int .i64 b), .lit (.int .i64 n), .lit (.int .i64 c)]
def cR : Value → Option (DataW Unit × List MemPlace)
  | .slice none n c => if n = 0 ∧ c = 0 then some (.nil, []) else none
  | .slice (some a) n c => if a = ⟨a.block, 0, none⟩ then some (.agg [.lit (.int .i64 a.block), .lit (.int .i64 n), .lit (.int .i64 c)], []) else none
  | _ => none
theorem cR_V (o : Option (Nat × Nat × Nat)) : cR (cV o) = some (cE o, []) := by
  cases o with
  | none => rfl
  | some q => obtain ⟨b, n, c⟩ := q; simp [cV, cR, cE]
theorem cR_inv (v : Value) (o : Option (Nat × Nat × Nat)) (ps : List MemPlace) (h : cR v = some (cE o, ps)) : v = cV o := by
  unfold cR at h
  split at h
  · rename_i n c
    by_cases q : n = 0 ∧ c = 0
    · rw [if_pos q] at h
      obtain ⟨rfl, rfl⟩ := q
      cases o with
      | none => rfl
      | some q => obtain ⟨b, n, c⟩ := q; simp [cE] at h
    · rw [if_neg q] at h; cases h
  · rename_i a n c
    by_cases q : a = ⟨a.block, 0, none⟩
    · rw [if_pos q] at h
      cases o with
      | none => simp [cE] at h
      | some z =>
        obtain ⟨b, n', c'⟩ := z
        simp [cE] at h
        obtain ⟨⟨h1, h2, h3⟩, _⟩ := h
        have e1 : a.block = b := by omega
        have e2 : n = n' := by omega
        have e3 : c = c' := by omega
        subst e2 e3
        show _ = Value.slice (some ⟨b, 0, none⟩) n c
        rw [q, e1]
    · rw [if_neg q] at h; cases h
  · cases h
def cK : MK (Nat × Nat × Nat) where
  t := 140
  e := 35
  V := cV
  E := cE
  R := cR
  ht := Tryz.underlying140
  hz := zv_ids
  rv := cR_V
  inv := cR_inv
theorem wpList_del9 {ops : Array Oper} {rest : List Oper} {op : Oper} {a : Go.Act} {w w' : World} {Q : Exit → Go.Act → World → Prop} (hgd : op.guard = none) (tm tx : Operand) (t k : TypeId)
    (ho : op.op = .call { callee := .builtin .delete, args := #[tm, tx], argTypes := #[t, k] }) (v u : Value) (hm : a.eval tm = v) (hx : a.eval tx = u)
    (hr : (Builtin.delete_ #[t, k] op.type #[v, u]).run Tryz.prog w = .ok (.tuple #[]) w') (h : wpList Tryz.prog ops Q rest (a.put op.dst (.tuple #[])) w') : wpList Tryz.prog ops Q (op :: rest) a w := by
  refine wpList_plain hgd fun K hK => ?_
  have h3 := hK _ _ h
  unfold Oper.wp execOp
  simp only [ho, resolve, invoke, builtin, Sem.run_bind, Sem.run_pure, Result.andThen_ok, List.map_toArray, List.map_cons, List.map_nil, hm, hx, hr]
  exact h3

theorem up_nod {l : List Int} (h : l.Pairwise (· < ·)) : l.Nodup := h.imp (fun {a b} c => by omega)
theorem up_ext {l m : List Int} (hl : l.Pairwise (· < ·)) (hm : m.Pairwise (· < ·)) (h : ∀ z, z ∈ l ↔ z ∈ m) : l = m :=
  List.Perm.eq_of_pairwise (le := fun a b => a < b) (fun a b _ _ h1 h2 => by omega) hl hm ((List.perm_ext_iff_of_nodup (up_nod hl) (up_nod hm)).2 h)
theorem chF_up {L : FT} (hn : (L.map Prod.fst).Nodup) (x : Int) : (chF L x).Pairwise (· < ·) := by
  have h1 : (chF L x).Pairwise (· ≤ ·) := sort_sorted _ [] List.Pairwise.nil
  have h2 : (chF L x).Pairwise (· ≠ ·) := chF_nod hn x
  exact (h1.and h2).imp (fun {a b} c => by omega)
theorem up_le {l : List Int} (h : l.Pairwise (· < ·)) : l.Pairwise (· ≤ ·) := h.imp (fun {a b} c => by omega)
theorem cnt_at {c : Int} : ∀ {l : List Int}, l.Pairwise (· < ·) → c ∈ l → l[l.countP (fun z => decide (z < c))]? = some c
  | [], _, h => by cases h
  | a :: l, hp, h => by
    rw [List.pairwise_cons] at hp
    rcases List.mem_cons.1 h with rfl | h
    · have h0 : (c :: l).countP (fun z => decide (z < c)) = 0 := List.countP_eq_zero.2 (fun z hz => by
        rcases List.mem_cons.1 hz with rfl | hz
        · simp
        · have := hp.1 z hz; simp; omega)
      rw [h0]
      rfl
    · have hlt := hp.1 c h
      rw [List.countP_cons_of_pos (by simpa using hlt), List.getElem?_cons_succ]
      exact cnt_at hp.2 h
theorem cnt_split {c : Int} : ∀ {l : List Int}, l.Pairwise (· < ·) → (∀ z ∈ l.take (l.countP (fun z => decide (z < c))), z < c) ∧ ∀ z ∈ l.drop (l.countP (fun z => decide (z < c))), ¬ z < c
  | [], _ => ⟨fun z h => by simp at h, fun z h => by simp at h⟩
  | a :: l, hp => by
    rw [List.pairwise_cons] at hp
    by_cases hlt : a < c
    · rw [List.countP_cons_of_pos (by simpa using hlt), List.take_succ_cons, List.drop_succ_cons]
      obtain ⟨h1, h2⟩ := cnt_split hp.2
      exact ⟨fun z hz => (List.mem_cons.1 hz).elim (fun e => by rw [e]; exact hlt) (h1 z), h2⟩
    · have h0 : (a :: l).countP (fun z => decide (z < c)) = 0 := List.countP_eq_zero.2 (fun z hz => by
        rcases List.mem_cons.1 hz with rfl | hz
        · simpa using hlt
        · have := hp.1 z hz; simp; omega)
      rw [h0]
      refine ⟨fun z hz => by simp at hz, fun z hz => ?_⟩
      rw [List.drop_zero] at hz
      rcases List.mem_cons.1 hz with rfl | hz
      · exact hlt
      · have := hp.1 z hz; omega
def cntI (l : List Int) (c : Int) : Nat := l.countP (fun z => decide (z < c))
theorem cntI_le (l : List Int) (c : Int) : cntI l c ≤ l.length := List.countP_le_length
theorem cntI_lt {l : List Int} {c : Int} (hp : l.Pairwise (· < ·)) (h : c ∈ l) : cntI l c < l.length := (List.getElem?_eq_some_iff.1 (cnt_at hp h)).1
def cutI (l : List Int) (c : Int) : List Int := l.take (cntI l c) ++ l.drop (cntI l c + 1)
def putI (l : List Int) (c : Int) : List Int := l.take (cntI l c) ++ c :: l.drop (cntI l c)
theorem at_split {l : List Int} {i : Nat} {c : Int} (h : l[i]? = some c) : l = l.take i ++ c :: l.drop (i + 1) := by
  obtain ⟨hi, e⟩ := List.getElem?_eq_some_iff.1 h
  rw [← e, ← List.drop_eq_getElem_cons hi, List.take_append_drop]
theorem cutI_len {l : List Int} {c : Int} (hp : l.Pairwise (· < ·)) (h : c ∈ l) : (cutI l c).length = l.length - 1 := by
  have := cntI_lt hp h
  unfold cutI
  rw [List.length_append, List.length_take, List.length_drop]
  omega
theorem putI_len (l : List Int) (c : Int) : (putI l c).length = l.length + 1 := by
  have := cntI_le l c
  unfold putI
  rw [List.length_append, List.length_take, List.length_cons, List.length_drop]
  omega
theorem cutI_up {l : List Int} {c : Int} (hp : l.Pairwise (· < ·)) : (cutI l c).Pairwise (· < ·) := by
  unfold cutI
  rw [← List.eraseIdx_eq_take_drop_succ]
  exact hp.sublist (List.eraseIdx_sublist _ _)
theorem mem_cutI {l : List Int} {c : Int} (hp : l.Pairwise (· < ·)) (h : c ∈ l) {z : Int} : z ∈ cutI l c ↔ z ∈ l ∧ z ≠ c := by
  have e := at_split (cnt_at hp h)
  have hp2 := hp
  rw [e, List.pairwise_append] at hp2
  obtain ⟨h1, h2, h3⟩ := hp2
  rw [List.pairwise_cons] at h2
  unfold cutI cntI
  constructor
  · intro hz
    rcases List.mem_append.1 hz with hz | hz
    · exact ⟨List.mem_of_mem_take hz, fun q => by have := h3 z hz c List.mem_cons_self; omega⟩
    · exact ⟨List.mem_of_mem_drop hz, fun q => by have := h2.1 z hz; omega⟩
  · rintro ⟨hz, hne⟩
    rw [e] at hz
    rcases List.mem_append.1 hz with hz | hz
    · exact List.mem_append_left _ hz
    · rcases List.mem_cons.1 hz with hz | hz
      · exact absurd hz hne
      · exact List.mem_append_right _ hz
theorem putI_up {l : List Int} {c : Int} (hp : l.Pairwise (· < ·)) (h : c ∉ l) : (putI l c).Pairwise (· < ·) := by
  obtain ⟨h1, h2⟩ := cnt_split (c := c) hp
  have h2' : ∀ z ∈ l.drop (cntI l c), c < z := fun z hz => by
    have q1 := h2 z hz
    have q2 : z ≠ c := fun e => h (e ▸ List.mem_of_mem_drop hz)
    omega
  unfold putI
  refine List.pairwise_append.2 ⟨hp.sublist (List.take_sublist _ _), List.pairwise_cons.2 ⟨h2', hp.sublist (List.drop_sublist _ _)⟩, fun a ha b hb => ?_⟩
  have ha' := h1 a ha
  rcases List.mem_cons.1 hb with rfl | hb
  · exact ha'
  · have := h2' b hb; omega
theorem mem_putI {l : List Int} {c z : Int} : z ∈ putI l c ↔ z = c ∨ z ∈ l := by
  unfold putI
  rw [List.mem_append, List.mem_cons]
  constructor
  · rintro (h | h | h)
    · exact Or.inr (List.mem_of_mem_take h)
    · exact Or.inl h
    · exact Or.inr (List.mem_of_mem_drop h)
  · rintro (h | h)
    · exact Or.inr (Or.inl h)
    · rw [← List.take_append_drop (cntI l c) l, List.mem_append] at h
      exact h.imp id Or.inr
section
variable {L : FT} {c p x : Int}
theorem ch_free_other (hn : (L.map Prod.fst).Nodup) (h : parO L c = some p) (hx : x ≠ p) : chF (freeF L c) x = chF L x := by
  refine up_ext (chF_up (free_nod hn c) x) (chF_up hn x) (fun z => ?_)
  rw [mem_chF (free_nod hn c), mem_chF hn, par_free]
  by_cases q : z = c
  · rw [if_pos q, q, h]
    exact ⟨fun k => (by cases k), fun k => (by injection k with k; exact absurd k.symm hx)⟩
  · rw [if_neg q]
theorem ch_free_self (hn : (L.map Prod.fst).Nodup) (h : parO L c = some p) : chF (freeF L c) p = cutI (chF L p) c := by
  have hc : c ∈ chF L p := (mem_chF hn).2 h
  refine up_ext (chF_up (free_nod hn c) p) (cutI_up (chF_up hn p)) (fun z => ?_)
  rw [mem_chF (free_nod hn c), mem_cutI (chF_up hn p) hc, mem_chF hn, par_free]
  by_cases q : z = c
  · rw [if_pos q]
    exact ⟨fun k => (by cases k), fun k => absurd q k.2⟩
  · rw [if_neg q]
    exact ⟨fun k => ⟨k, q⟩, fun k => k.1⟩
theorem free_none (h : parO L c = none) : freeF L c = L := by
  unfold freeF
  refine List.filter_eq_self.2 (fun q hq => ?_)
  by_cases e : q.1 = c
  · exfalso
    unfold parO at h
    have : L.find? (fun p => p.1 == c) ≠ none := fun k => by
      have := List.find?_eq_none.1 k q hq
      simp [e] at this
    cases k : L.find? (fun p => p.1 == c) with
    | none => exact this k
    | some v => rw [k] at h; cases h
  · simpa using e
theorem free_twice (L : FT) (c : Int) : freeF (freeF L c) c = freeF L c := free_none (by rw [par_free, if_pos rfl])
theorem ch_set_other (hn : (L.map Prod.fst).Nodup) (h : parO L c = none) (hx : x ≠ p) : chF (setF L c p) x = chF L x := by
  refine up_ext (chF_up (set_nod hn c p) x) (chF_up hn x) (fun z => ?_)
  rw [mem_chF (set_nod hn c p), mem_chF hn, par_set]
  by_cases q : z = c
  · rw [if_pos q, q, h]
    exact ⟨fun k => (by injection k with k; exact absurd k.symm hx), fun k => (by cases k)⟩
  · rw [if_neg q]
theorem ch_set_self (hn : (L.map Prod.fst).Nodup) (h : parO L c = none) : chF (setF L c p) p = putI (chF L p) c := by
  have hc : c ∉ chF L p := fun k => by rw [mem_chF hn, h] at k; cases k
  refine up_ext (chF_up (set_nod hn c p) p) (putI_up (chF_up hn p) hc) (fun z => ?_)
  rw [mem_chF (set_nod hn c p), mem_putI, mem_chF hn, par_set]
  by_cases q : z = c
  · rw [if_pos q]
    exact ⟨fun _ => Or.inl q, fun _ => rfl⟩
  · rw [if_neg q]
    exact ⟨Or.inr, fun k => k.elim (fun e => absurd e q) id⟩
theorem par_frees (z : Int) : ∀ (xs : List Int) (L : FT), parO (freeS L xs) z = if z ∈ xs then none else parO L z
  | [], L => by simp [freeS]
  | a :: xs, L => by
    have ih := par_frees z xs (freeF L a)
    show parO (freeS (freeF L a) xs) z = _
    rw [ih, par_free]
    by_cases q : z ∈ xs
    · rw [if_pos q, if_pos (List.mem_cons_of_mem _ q)]
    · rw [if_neg q]
      by_cases e : z = a
      · rw [if_pos e, if_pos (by rw [e]; exact List.mem_cons_self)]
      · rw [if_neg e, if_neg (fun k => (List.mem_cons.1 k).elim e q)]
theorem frees_nod : ∀ (xs : List Int) {L : FT}, (L.map Prod.fst).Nodup → ((freeS L xs).map Prod.fst).Nodup
  | [], _, h => h
  | a :: xs, _, h => frees_nod xs (free_nod h a)
theorem not_own {L : FT} (h : WF L) (x : Int) : parO L x ≠ some x := fun e => by
  have := no_ring h x
  rw [abv_some h e] at this
  exact this List.mem_cons_self
theorem ch_free_same (h : WF L) (x : Int) : chF (freeF L x) x = chF L x := by
  cases hp : parO L x with
  | none => rw [free_none hp]
  | some p => exact ch_free_other h.1 hp (fun e => not_own h x (by rw [hp, ← e]))
theorem ch_drop_self (h : WF L) (x : Int) : chF (dropF L x) x = [] := by
  have hn := frees_nod (chF L x) (free_nod h.1 x)
  refine List.eq_nil_iff_forall_not_mem.2 (fun z hz => ?_)
  unfold dropF at hz
  rw [mem_chF hn, par_frees] at hz
  by_cases q : z ∈ chF L x
  · rw [if_pos q] at hz; cases hz
  · rw [if_neg q, par_free] at hz
    by_cases e : z = x
    · rw [if_pos e] at hz; cases hz
    · rw [if_neg e] at hz
      exact q ((mem_chF h.1).2 hz)
theorem ch_drop_other (h : WF L) {x y : Int} (hy : y ≠ x) : chF (dropF L x) y = chF (freeF L x) y := by
  have hn := frees_nod (chF L x) (free_nod h.1 x)
  refine up_ext (chF_up hn y) (chF_up (free_nod h.1 x) y) (fun z => ?_)
  rw [mem_chF (free_nod h.1 x)]
  unfold dropF
  rw [mem_chF hn, par_frees]
  by_cases q : z ∈ chF L x
  · rw [if_pos q, par_free]
    have e := (mem_chF h.1).1 q
    refine ⟨fun k => (by cases k), fun k => ?_⟩
    by_cases f : z = x
    · rw [if_pos f] at k; cases k
    · rw [if_neg f, e] at k
      injection k with k
      exact absurd k.symm hy
  · rw [if_neg q]
end
theorem free_rng {L : FT} (h : ∀ p ∈ L, Rg p.1 ∧ Rg p.2) (c : Int) : ∀ p ∈ freeF L c, Rg p.1 ∧ Rg p.2 := fun p hp => h p (List.mem_filter.1 hp).1
theorem frees_rng : ∀ (xs : List Int) {L : FT}, (∀ p ∈ L, Rg p.1 ∧ Rg p.2) → ∀ p ∈ freeS L xs, Rg p.1 ∧ Rg p.2
  | [], _, h => h
  | a :: xs, _, h => frees_rng xs (free_rng h a)
theorem set_rng {L : FT} (h : ∀ p ∈ L, Rg p.1 ∧ Rg p.2) {c p : Int} (hc : Rg c) (hp : Rg p) : ∀ q ∈ setF L c p, Rg q.1 ∧ Rg q.2 := fun q hq => by
  unfold setF at hq
  rcases List.mem_append.1 hq with hq | hq
  · exact free_rng h c q hq
  · rw [List.mem_singleton] at hq
    rw [hq]
    exact ⟨hc, hp⟩

theorem OwnD.len {w : World} {base n : Nat} {v : Value} {zs : List Int} (h : OwnD w base v n zs) : zs.length = n := by
  have := h.1
  rw [List.length_map, Nat.mul_one] at this
  exact this
theorem OwnD.cut {w : World} {base n cap g k : Nat} {zs : List Int} (h : OwnD w base (.slice (some ⟨g, 0, none⟩) n cap) n zs) (hk : k ≤ n) : OwnD w base (.slice (some ⟨g, 0, none⟩) k cap) k (zs.take k) := by
  have hl := h.len
  refine ⟨by rw [List.length_map, List.length_take, Nat.mul_one]; omega, ?_⟩
  rcases h.2 with ⟨e, _⟩ | ⟨g', cap', cur, e, hb, hg, hn1, hm, hs, ht⟩
  · injection e with e _ _
    cases e
  · injection e with e1 _ e3
    injection e1 with e1
    injection e1 with e1 _ _
    subst e1 e3
    refine Or.inr ⟨g, cap, cur, rfl, hb, hg, by omega, hm, hs, ?_⟩
    rw [Nat.mul_one] at ht ⊢
    rw [List.map_take, ← ht, List.take_take, Nat.min_eq_left hk]
theorem OwnD.base {w : World} {base base' n : Nat} {v : Value} {zs : List Int} (h : OwnD w base v n zs) (hb : base' ≤ base) : OwnD w base' v n zs := ⟨h.1, h.2.imp id fun ⟨g, cap, cur, h1, h2, h3⟩ => ⟨g, cap, cur, h1, Nat.le_trans hb h2, h3⟩⟩
theorem OwnD.same {w w' : World} {base n : Nat} {v : Value} {zs : List Int} (h : OwnD w base v n zs) (he : ∀ b, v.ownBlock = some b → w'.heap[b]? = w.heap[b]?) : OwnD w' base v n zs :=
  ⟨h.1, h.2.imp id fun ⟨g, cap, cur, e, hb, hg, hr⟩ => ⟨g, cap, cur, e, hb, (he g (by rw [e]; rfl)).trans hg, hr⟩⟩
theorem OwnD.lt {w : World} {base n : Nat} {v : Value} {zs : List Int} (h : OwnD w base v n zs) : ∀ b, v.ownBlock = some b → base ≤ b ∧ b < w.heap.size := World.ownsRow.lt h
theorem OwnD.keep {w w' : World} {base n : Nat} {v : Value} {zs : List Int} (h : OwnD w base v n zs) (hb : Below w.heap.size w w') : OwnD w' base v n zs := h.same (fun b e => hb.block b (h.lt b e).2)
theorem put_row9 {w : World} {base g cap q : Nat} {xs ts : List Int} (h : OwnD w base (.slice (some ⟨g, 0, none⟩) xs.length cap) xs.length xs) (hl : ts.length = xs.length) :
    OwnD (Go.Sort.putRow encZ (Go.Sort.ahead w q) g 0 ts.toArray) base (.slice (some ⟨g, 0, none⟩) xs.length cap) xs.length ts ∧ w.grownBy (Go.Sort.putRow encZ (Go.Sort.ahead w q) g 0 ts.toArray) (some g) := by
  rcases h.2 with ⟨e, _⟩ | ⟨g', cap', cur, e, hb, hg, hn1, hm, hs, ht⟩
  · injection e with e _ _
    cases e
  · injection e with e1 _ e3
    injection e1 with e1
    injection e1 with e1 _ _
    subst e1 e3
    have h1 := ownsRow_sorted_i (n := q) (os := #[]) hl hb hg hn1 hm (by simpa using hs)
    have h2 := grownBy_sorted_i (w := w) (g := g) (n := q) (os := #[]) ts.toArray
    rw [Go.Sort.grow_empty] at h1 h2
    exact ⟨h1, h2⟩
theorem holds9 {w : World} {base g cap : Nat} {xs : List Int} (h : OwnD w base (.slice (some ⟨g, 0, none⟩) xs.length cap) xs.length xs) : Go.Sort.Holds encZ w g 0 xs.toArray ∧ xs.length ≤ cap ∧ cap ≤ maxLen := by
  rcases h.2 with ⟨e, _⟩ | ⟨g', cap', cur, e, hb, hg, hn1, hm, hs, ht⟩
  · injection e with e _ _
    cases e
  · injection e with e1 _ e3
    injection e1 with e1
    injection e1 with e1 _ _
    subst e1 e3
    exact ⟨holds_of_block_i hg (by simpa using ht), hn1, hm⟩
theorem rev9_any {w : World} {base n : Nat} {v : Value} {xs : List Int} (h : OwnD w base v n xs) :
    Calls Tryz.prog 198 #[v] w fun e w' => e = .returned (.tuple #[]) ∧ OwnD w' base v n xs.reverse ∧ w.grownBy w' v.ownBlock := by
  have hl := h.len
  rcases h.2 with ⟨rfl, h0⟩ | ⟨g, cap, cur, rfl, hb, hg, hn1, hm, hs, ht⟩
  · have hx : xs = [] := List.eq_nil_of_length_eq_zero (by omega)
    subst hx
    refine (AnyG.slices_Reverse_int_empty lay_revB none 0 w).mono ?_
    rintro e w' ⟨rfl, rfl⟩
    exact ⟨rfl, h, ⟨rfl, rfl, rfl, Nat.le_refl _, fun _ _ _ => rfl⟩⟩
  · subst hl
    obtain ⟨h1, h2, h3⟩ := holds9 h
    unfold maxLen at h3
    refine (AnyG.slices_Reverse_int lay_revB g 0 cap xs w h1 (by omega)).mono ?_
    rintro e w' ⟨rfl, q, rfl⟩
    obtain ⟨k1, k2⟩ := put_row9 (q := q) (ts := xs.reverse) h (by simp)
    exact ⟨rfl, k1, k2⟩
theorem comp9_any {w : World} {base n : Nat} {v : Value} {xs : List Int} (h : OwnD w base v n xs) :
    Calls Tryz.prog 253 #[v] w fun e w' => ∃ v', e = .returned v' ∧ OwnD w' base v' (Lib.compact xs).length (Lib.compact xs) ∧ w.grownBy w' v.ownBlock ∧ v'.ownBlock = v.ownBlock := by
  have hl := h.len
  rcases h.2 with ⟨rfl, h0⟩ | ⟨g, cap, cur, rfl, hb, hg, hn1, hm, hs, ht⟩
  · have hx : xs = [] := List.eq_nil_of_length_eq_zero (by omega)
    subst hx
    refine (AnyG.slices_Compact_int_empty lay_compB none 0 w).mono ?_
    rintro e w' ⟨rfl, rfl⟩
    exact ⟨_, rfl, OwnD.nil _ _, ⟨rfl, rfl, rfl, Nat.le_refl _, fun _ _ _ => rfl⟩, rfl⟩
  · subst hl
    obtain ⟨h1, h2, h3⟩ := holds9 h
    unfold maxLen at h3
    have hle := Lib.compact_length_le xs
    refine (AnyG.slices_Compact_int lay_compB g 0 cap xs w h1 (by omega) h2).mono ?_
    rintro e w' ⟨rfl, q, rfl⟩
    obtain ⟨k1, k2⟩ := put_row9 (q := q) (ts := Lib.compact xs ++ List.replicate (xs.length - (Lib.compact xs).length) 0) h (by rw [List.length_append, List.length_replicate]; omega)
    refine ⟨_, rfl, ?_, k2, rfl⟩
    have k3 := k1.cut hle
    rwa [List.take_left] at k3
theorem del9_any {w : World} {base g cap i : Nat} {xs : List Int} (h : OwnD w base (.slice (some ⟨g, 0, none⟩) xs.length cap) xs.length xs) (hi : i < xs.length) :
    Calls Tryz.prog 183 #[.slice (some ⟨g, 0, none⟩) xs.length cap, .int .i64 i, .int .i64 (i + 1)] w fun e w' => e = .returned (.slice (some ⟨g, 0, none⟩) (xs.length - 1) cap) ∧ OwnD w' base (.slice (some ⟨g, 0, none⟩) (xs.length - 1) cap) (xs.length - 1) (xs.take i ++ xs.drop (i + 1)) ∧ w.grownBy w' (some g) := by
  obtain ⟨h1, h2, h3⟩ := holds9 h
  unfold maxLen at h3
  have hc := AnyG.slices_Delete_int lay_delB g 0 cap i (i + 1) xs w h1 h2 (by omega) (by omega) (by omega)
  rw [show i + 1 - i = 1 by omega] at hc
  refine hc.mono ?_
  rintro e w' ⟨rfl, q, rfl⟩
  have hl : (xs.take i ++ xs.drop (i + 1)).length = xs.length - 1 := by rw [List.length_append, List.length_take, List.length_drop]; omega
  obtain ⟨k1, k2⟩ := put_row9 (q := q) (ts := xs.take i ++ xs.drop (i + 1) ++ List.replicate 1 0) h (by rw [List.length_append, hl, List.length_replicate]; omega)
  refine ⟨rfl, ?_, k2⟩
  have k3 := k1.cut (k := xs.length - 1) (by omega)
  rwa [List.take_left' hl] at k3
theorem clone9_any {w : World} {a : Option Addr} {n cap : Nat} {xs : List Int} (h : Row w a n xs) (hn : n ≤ 100000) :
    Calls Tryz.prog 187 #[.slice a n cap] w fun e w' => ∃ v, e = .returned v ∧ OwnD w' w.heap.size v n xs ∧ Below w.heap.size w w' := by
  have hl := h.1
  cases a with
  | none =>
    have h0 : n = 0 := by
      rcases h.2.2 with c | ⟨b, off, e, _⟩
      · exact c
      · cases e
    subst h0
    have hx : xs = [] := List.eq_nil_of_length_eq_zero hl
    subst hx
    refine (AnyG.slices_Clone_int_nil lay_cloneB 0 cap w).mono ?_
    rintro e w' ⟨rfl, rfl⟩
    exact ⟨_, rfl, OwnD.nil _ _, Below.refl _ _⟩
  | some ad =>
    by_cases h0 : n = 0
    · subst h0
      have hx : xs = [] := List.eq_nil_of_length_eq_zero hl
      subst hx
      refine (AnyG.slices_Clone_int_zero lay_cloneB ad cap w).mono ?_
      rintro e w' ⟨v, rfl, k1, _, k2⟩
      exact ⟨v, rfl, k1, k2⟩
    · rcases h.2.2 with c | ⟨b, off, e, hc⟩
      · exact absurd c h0
      · injection e with e
        subst e
        refine (AnyG.slices_Clone_int lay_cloneB b off n cap xs w (by omega) (by omega) (fun j hj => hc j (by omega))).mono ?_
        rintro e w' ⟨v, rfl, k1, _, k2⟩
        rw [List.take_of_length_le (by omega)] at k1
        exact ⟨v, rfl, k1, k2⟩
set_option maxHeartbeats 2000000 in
set_option maxRecDepth 100000 in
theorem find9_none (w : World) (a : Option Addr) (cap : Nat) (x : Int) :
    Calls Tryz.prog 182 #[.slice a 0 cap, .int .i64 x] w fun e w' => e = .returned (.tuple #[.int .i64 0, .bool false]) ∧ w' = w := by
  go_enter Tryz.func182, Tryz.ntmps182
  go_wp2
  go_loopg [7, 8] 0 (fun _ s7 s8 wr => s7 = .int .i64 0 ∧ s8 = .int .i64 0 ∧ wr = w)
  case atStart => exact ⟨rfl, rfl, rfl⟩
  case round =>
    obtain ⟨rfl, rfl, rfl⟩ := hrel
    go_wp2
    go_ret2
    exact ⟨rfl, rfl⟩
theorem find9_any {w : World} {a : Option Addr} {n cap : Nat} {xs : List Int} (h : Row w a n xs) (hn : n ≤ 100000) (hs : xs.Pairwise (· ≤ ·)) (x : Int) :
    Calls Tryz.prog 182 #[.slice a n cap, .int .i64 x] w fun e w' => e = .returned (.tuple #[.int .i64 (cntI xs x : Nat), .bool (decide (x ∈ xs))]) ∧ ∃ q, w' = w.drewN q := by
  have hl := h.1
  by_cases h0 : n = 0
  · subst h0
    have hx : xs = [] := List.eq_nil_of_length_eq_zero hl
    subst hx
    refine (find9_none w a cap x).mono ?_
    rintro e w' ⟨rfl, rfl⟩
    exact ⟨rfl, 0, rfl⟩
  · rcases h.2.2 with c | ⟨b, off, e, hc⟩
    · exact absurd c h0
    · subst e
      refine (AnyG.slices_BinarySearch_int lay_findB b off n cap xs x w (by omega) (by omega) (fun j hj => hc j (by omega)) (by rw [List.take_of_length_le (by omega)]; exact hs)).mono ?_
      rintro e w' ⟨rfl, q, rfl⟩
      rw [List.take_of_length_le (by omega)]
      refine ⟨?_, q, rfl⟩
      rw [show xs.contains x = decide (x ∈ xs) from by simp]
      rfl

theorem OwnD.cells {w : World} {base n cap g : Nat} {xs : List Int} (h : OwnD w base (.slice (some ⟨g, 0, none⟩) n cap) n xs) : ∃ X : List Value, Blk w g 81 X.toArray ∧ X.length = cap ∧ X.take n = xs.map (Value.int .i64) ∧ n ≤ cap ∧ cap ≤ maxLen ∧ base ≤ g := by
  rcases h.2 with ⟨e, _⟩ | ⟨g', cap', cur, e, hb, hg, hn1, hm, hs, ht⟩
  · injection e with e _ _
    cases e
  · injection e with e1 _ e3
    injection e1 with e1
    injection e1 with e1 _ _
    subst e1 e3
    refine ⟨cur.toList, by unfold Blk; rw [Array.toArray_toList]; exact hg, by rw [Array.length_toList]; omega, by rw [Nat.mul_one] at ht; exact ht, hn1, hm, hb⟩
theorem OwnD.of_cells {w : World} {base n cap g : Nat} {xs : List Int} {X : List Value} (hb : Blk w g 81 X.toArray) (hl : X.length = cap) (ht : X.take n = xs.map (Value.int .i64)) (hn : n ≤ cap) (hm : cap ≤ maxLen) (hg : base ≤ g) : OwnD w base (.slice (some ⟨g, 0, none⟩) n cap) n xs := by
  have e := congrArg List.length ht
  rw [List.length_take, List.length_map] at e
  exact ⟨by rw [List.length_map, Nat.mul_one]; omega, Or.inr ⟨g, cap, X.toArray, rfl, hg, hb, hn, hm, by simp [hl], by rw [Nat.mul_one]; exact ht⟩⟩
theorem OwnD.at_ {w : World} {base n cap g : Nat} {xs : List Int} (h : OwnD w base (.slice (some ⟨g, 0, none⟩) n cap) n xs) {j : Nat} {x : Int} (hx : xs[j]? = some x) : w.cell? ⟨g, j, none⟩ = some (.int .i64 x) := by
  obtain ⟨X, hb, hl, ht, hn, hm, _⟩ := h.cells
  have hj : j < n := by have := (List.getElem?_eq_some_iff.1 hx).1; have := h.len; omega
  rw [hb.cell]
  have : (X.take n)[j]? = (xs.map (Value.int .i64))[j]? := by rw [ht]
  rw [List.getElem?_take_of_lt hj, List.getElem?_map, hx] at this
  simpa using this
theorem OwnD.some_ {w : World} {base n cap g : Nat} {xs : List Int} (h : OwnD w base (.slice (some ⟨g, 0, none⟩) n cap) n xs) {j : Nat} (hj : j < cap) : (w.cell? ⟨g, j, none⟩).isSome = true := by
  obtain ⟨X, hb, hl, ht, hn, hm, _⟩ := h.cells
  rw [hb.cell]
  simp [hl, hj]
theorem OwnD.frozen {w : World} {base n cap g : Nat} {xs : List Int} (h : OwnD w base (.slice (some ⟨g, 0, none⟩) n cap) n xs) (j : Nat) : w.frozen? ⟨g, j, none⟩ = false := by
  obtain ⟨X, hb, _⟩ := h.cells
  exact hb.frozen j
theorem one_enc (l : List Int) : ∀ v ∈ l.map (Value.int .i64), v.oneCell' = true := fun v hv => by
  obtain ⟨y, _, rfl⟩ := List.mem_map.1 hv
  rfl
theorem take_splice {X : List Value} {xs : List Int} {n i : Nat} {c : Int} (ht : X.take n = xs.map (Value.int .i64)) (hl : n + 1 ≤ X.length) (hx : xs.length = n) (hi : i ≤ n) :
    (splice (splice X (i + 1) ((xs.drop i).map (Value.int .i64))) i [.int .i64 c]).take (n + 1) = (xs.take i ++ c :: xs.drop i).map (Value.int .i64) := by
  have hd : ((xs.drop i).map (Value.int .i64)).length = n - i := by rw [List.length_map, List.length_drop]; omega
  have h1 : X.take i = (xs.take i).map (Value.int .i64) := by rw [List.map_take, ← ht, List.take_take, Nat.min_eq_left hi]
  have h2 : (X.take (i + 1) ++ (xs.drop i).map (Value.int .i64) ++ X.drop (i + 1 + ((xs.drop i).map (Value.int .i64)).length)).take i = X.take i := by
    rw [List.append_assoc, List.take_append_of_le_length (by rw [List.length_take]; omega), List.take_take, Nat.min_eq_left (by omega)]
  have h3 : (X.take (i + 1) ++ (xs.drop i).map (Value.int .i64) ++ X.drop (i + 1 + ((xs.drop i).map (Value.int .i64)).length)).drop (i + 1) = (xs.drop i).map (Value.int .i64) ++ X.drop (n + 1) := by
    rw [List.append_assoc, List.drop_append_of_le_length (by rw [List.length_take]; omega), List.drop_take, Nat.sub_self, List.take_zero, List.nil_append, hd, show i + 1 + (n - i) = n + 1 by omega]
  unfold splice
  rw [show i + [Value.int .i64 c].length = i + 1 from rfl, h2, h3, h1, List.map_append, List.map_cons]
  rw [List.append_assoc, show ([Value.int .i64 c] ++ ((xs.drop i).map (Value.int .i64) ++ X.drop (n + 1))) = (Value.int .i64 c :: (xs.drop i).map (Value.int .i64)) ++ X.drop (n + 1) from rfl, ← List.append_assoc]
  rw [List.take_append_of_le_length (by rw [List.length_append, List.length_map, List.length_take, List.length_cons, hd]; omega)]
  exact List.take_of_length_le (by rw [List.length_append, List.length_map, List.length_take, List.length_cons, hd]; omega)

set_option maxHeartbeats 4000000 in
set_option maxRecDepth 100000 in
theorem ins9_shift {w : World} {base b n cap i vb : Nat} {xs : List Int} {c : Int} (h : OwnD w base (.slice (some ⟨b, 0, none⟩) n cap) n xs) (hv : Blk w vb 81 #[.int .i64 c]) (hvb : vb ≠ b) (hi : i < n) (hroom : n + 1 ≤ cap) :
    Calls Tryz.prog 184 #[.slice (some ⟨b, 0, none⟩) n cap, .int .i64 i, .slice (some ⟨vb, 0, none⟩) 1 1] w fun e w' =>
      e = .returned (.slice (some ⟨b, 0, none⟩) (n + 1) cap) ∧ w' = (w.drew.setCells b (i + 1) ((xs.drop i).map (Value.int .i64))).setCells b i [.int .i64 c] := by
  have hlen := h.len
  have mixed : Tryz.prog.follows Departure.mixedOrders = true := by kernel_rfl
  obtain ⟨X, hbk, hXl, _, _, hm, _⟩ := h.cells
  unfold maxLen at hm
  have hz2 : ¬ ((i : Int) = (n : Int)) := by omega
  have hsz : (Tryz.prog.info? 81).map (·.size) = some 1 := by
    obtain ⟨i0, hi0, h0, h1, h2⟩ := info_parts id_info
    rw [hi0]; simp [h1]
  have hsa : w.shape? vb = some (81, 1) := by
    unfold World.shape?
    rw [show w.heap[vb]? = _ from hv]
    rfl
  have hsb : w.shape? b = some (81, cap) := by
    unfold World.shape?
    rw [show w.heap[b]? = _ from hbk]
    simp [hXl]
  have hov : ∀ lb cb, (callFunc 245 #[.slice (some ⟨vb, 0, none⟩) 1 1, .slice (some ⟨b, i + 1, none⟩) lb cb]).run Tryz.prog w = .ok (.value (.bool false)) w := fun lb cb => by
    rw [run_callFunc_extern Tryz.func245 (by kernel_rfl) (by kernel_rfl) (by kernel_rfl) (e := Extern.SlicesOverlaps.overlaps #[35, 35] #[4]) (by kernel_rfl),
      Lib.run_overlaps_apart w 35 4 81 Tryz.underlying35 1 Tryz.sizeOf81 ⟨vb, 0, none⟩ ⟨b, i + 1, none⟩ 1 1 lb cb hvb 81 81 1 cap hsa hsb (by omega) (hv.frozen 0) (hv.frozen 1)]
    rfl
  have hdl : ((xs.drop i).map (Value.int .i64)).length = n - i := by rw [List.length_map, List.length_drop, hlen]
  have hw1 : IntKind.i64.wrap ((i : Int) + 1) = (i : Int) + 1 := by rw [IntKind.wrap_i64]; omega
  have hb1 : (0 : Int) ≤ (i : Int) + 1 := by omega
  have hin : i ≤ n := by omega
  have htn : ((i : Int) + 1).toNat = i + 1 := by omega
  have hb2 : ¬ (cap = i + 1) := by omega
  have hb3 : (i : Int) ≤ (n : Int) + 1 := by omega
  have hb4 : ¬ (cap = i) := by omega
  have hr1 : ¬ ((cap : Int) < (n : Int) + 1) := by omega
  obtain ⟨D, hD⟩ : ∃ D, D = (xs.drop i).map (Value.int .i64) := ⟨_, rfl⟩
  have hcp1 : ∀ ty dc sc, (Builtin.copy_ #[35, 35] ty #[.slice (some ⟨b, i + 1, none⟩) (n - i) dc, .slice (some ⟨b, i, none⟩) (n + 1 - i) sc]).run Tryz.prog w.drew = .ok (goInt D.length) (w.drew.setCells b (i + 1) D) := fun ty dc sc =>
    run_copy_cells w.drew _ _ ty 81 b (i + 1) (n - i) dc ⟨b, i, none⟩ (n + 1 - i) sc D Tryz.underlying35 hsz (by rw [hD, hdl]; simp only [Nat.min_def]; split <;> omega)
      (fun j v hj => by
        rw [Addr.add_lit]
        rw [hD, List.getElem?_map, List.getElem?_drop] at hj
        cases hq : xs[i + j]? with
        | none => rw [hq] at hj; cases hj
        | some y =>
          rw [hq] at hj
          injection hj with hj
          rw [← hj]
          exact h.at_ hq)
      (fun j hj => by rw [hD, hdl] at hj; exact h.some_ (by omega)) (fun j hj => h.frozen _) (by rw [hD]; exact one_enc _)
  obtain ⟨W1, hW1⟩ : ∃ W1, W1 = w.drew.setCells b (i + 1) D := ⟨_, rfl⟩
  have hsp1 : ∀ j, j < n + 1 → (W1.cell? ⟨b, j, none⟩).isSome = true := fun j hj => by
    rw [hW1]
    exact isSome_setCells b _ _ _ (fun q hq => by rw [hD, hdl] at hq; exact h.some_ (by omega)) _ (h.some_ (by omega))
  have hcp2 : ∀ (W : World), (∀ x, W.cell? x = W1.cell? x) → (∀ x, W.frozen? x = W1.frozen? x) → ∀ ty dc, (Builtin.copy_ #[35, 35] ty #[.slice (some ⟨b, i, none⟩) (n + 1 - i) dc, .slice (some ⟨vb, 0, none⟩) 1 1]).run Tryz.prog W = .ok (goInt 1) (W.setCells b i [.int .i64 c]) := fun W hWc hWf ty dc =>
    run_copy_cells W _ _ ty 81 b i (n + 1 - i) dc ⟨vb, 0, none⟩ 1 1 [.int .i64 c] Tryz.underlying35 hsz (by show 1 = _; simp only [Nat.min_def]; split <;> omega)
      (fun j v hj => by
        rw [Addr.add_lit, hWc, hW1, World.cell?_setCells_out b _ _ _ _ (fun h _ => absurd h hvb), Nat.zero_add]
        have := hv.cell j
        rw [show w.drew.cell? ⟨vb, j, none⟩ = w.cell? ⟨vb, j, none⟩ from rfl, this]
        simpa using hj)
      (fun j hj => by rw [hWc]; exact hsp1 _ (by simp at hj; omega)) (fun j hj => by rw [hWf, hW1, World.frozen?_setCells]; exact h.frozen _) (by intro u hu; simp at hu; subst hu; rfl)
  rw [← hW1] at hcp1
  rw [← hD, ← hW1]
  clear hD hsp1 hsa hsb hsz hdl hbk hXl
  go_enter Tryz.func184, Tryz.ntmps184
  go_wp2_with (simp only [hov])
  go_region_law_o (refine step_copy_runI rfl _ _ 35 35 rfl _ _ (by simp [Act.eval, Act.put]) (by simp [Act.eval, Act.put]) (hcp1 _ _ _) ?_)
  go_wp2_with (at_builtin; refine wpList_copy_runI _ rfl _ _ 35 35 rfl _ _ rfl rfl (hcp2 _ (fun _ => rfl) (fun _ => rfl) _ _) ?_)
  go_ret
  exact ⟨rfl, by rw [hW1]⟩

set_option maxHeartbeats 4000000 in
set_option maxRecDepth 100000 in
theorem ins9_end {w : World} {base n vb : Nat} {v : Value} {xs : List Int} {c : Int} (h : OwnD w base v n xs) (hbs : base ≤ w.heap.size) (hv : Blk w vb 81 #[.int .i64 c]) (hn : n ≤ 100000) :
    Calls Tryz.prog 184 #[v, .int .i64 n, .slice (some ⟨vb, 0, none⟩) 1 1] w fun e w' =>
      ∃ v', e = .returned v' ∧ OwnD w' base v' (n + 1) (xs ++ [c]) ∧ w.grownBy w' v.ownBlock ∧ (v'.ownBlock = v.ownBlock ∨ v'.ownBlock = some w.heap.size) := by
  obtain ⟨i0, hi0, hz0, hz1, hz2⟩ := info_parts id_info
  have HI := Lib.hid (And.intro hi0 (And.intro hz0 (And.intro hz1 hz2)))
  have HO := Lib.hid h
  have HV : Hid (∀ j u, [Value.int .i64 c][j]? = some u → w.cell? ((⟨vb, 0, none⟩ : Addr).add j) = some u) := Lib.hid (fun j u hj => by
    rw [Addr.add_lit, Nat.zero_add, hv.cell j]
    simpa using hj)
  clear hi0 hz0 hz1 hz2 hv
  rcases h.2 with ⟨rfl, h0⟩ | ⟨g, cap, cur, rfl, hb, hg, hn1, hm, hs, ht⟩
  · subst h0
    clear h
    go_enter Tryz.func184, Tryz.ntmps184
    go_wp2_with (at_builtin; refine wpList_append_own_at _ rfl (.tmp 23) (.tmp 24) 35 rfl base 81 i0 (.int .i64 0) 1 8 Tryz.underlying35 HI.out.1 HI.out.2.1 HI.out.2.2.1 HI.out.2.2.2 rfl (by decide) _ _ _ rfl HO.out ⟨vb, 0, none⟩ 1 1 [.int .i64 c] rfl rfl HV.out (by intro u hu; simp at hu; subst hu; rfl) (by unfold maxLen; omega) (by omega) hbs ?_)
    intro v' w' k1 k2 _ k3
    have K : Hid (OwnD w' base v' (0 + 1) (xs ++ [c]) ∧ w.grownBy w' (Value.slice none 0 0).ownBlock ∧ (v'.ownBlock = (Value.slice none 0 0).ownBlock ∨ v'.ownBlock = some w.heap.size)) := Lib.hid ⟨by unfold OwnD; rw [List.map_append]; exact k1, k2, k3⟩
    clear k1 k2 k3
    go_wp2
    go_ret
    exact ⟨_, rfl, K.out⟩
  · clear hb hg hs ht h
    unfold maxLen at hm
    go_enter Tryz.func184, Tryz.ntmps184
    go_wp2_with (at_builtin; refine wpList_append_own_at _ rfl (.tmp 23) (.tmp 24) 35 rfl base 81 i0 (.int .i64 0) 1 8 Tryz.underlying35 HI.out.1 HI.out.2.1 HI.out.2.2.1 HI.out.2.2.2 rfl (by decide) _ _ _ rfl HO.out ⟨vb, 0, none⟩ 1 1 [.int .i64 c] rfl rfl HV.out (by intro u hu; simp at hu; subst hu; rfl) (by unfold maxLen; omega) (by omega) hbs ?_)
    all_goals (
        intro v' w' k1 k2 _ k3
        have K : Hid (OwnD w' base v' (n + 1) (xs ++ [c]) ∧ w.grownBy w' (Value.slice (some ⟨g, 0, none⟩) n cap).ownBlock ∧ (v'.ownBlock = (Value.slice (some ⟨g, 0, none⟩) n cap).ownBlock ∨ v'.ownBlock = some w.heap.size)) := Lib.hid ⟨by unfold OwnD; rw [List.map_append]; exact k1, k2, k3⟩
        clear k1 k2 k3
        go_wp2
        go_ret
        exact ⟨_, rfl, K.out⟩)

set_option maxHeartbeats 4000000 in
set_option maxRecDepth 100000 in
theorem ins9_grow {w : World} {base b n cap i vb : Nat} {xs : List Int} {c : Int} (h : OwnD w base (.slice (some ⟨b, 0, none⟩) n cap) n xs) (hv : Blk w vb 81 #[.int .i64 c]) (hi : i < n) (hroom : cap < n + 1) (hn : n ≤ 100000) :
    Calls Tryz.prog 184 #[.slice (some ⟨b, 0, none⟩) n cap, .int .i64 i, .slice (some ⟨vb, 0, none⟩) 1 1] w fun e w' =>
      ∃ (G : Nat) (ROW : List Value), e = .returned (.slice (some ⟨w.heap.size, 0, none⟩) (n + 1) G) ∧ n + 1 ≤ G ∧ G ≤ maxLen ∧ ROW.length = G ∧ ROW.take i = (xs.take i).map (Value.int .i64) ∧
        w' = (((w.alloc (.cells ROW.toArray 81)).drew.setCells w.heap.size i [.int .i64 c]).drew).setCells w.heap.size (i + 1) ((xs.drop i).map (Value.int .i64)) := by
  have hlen := h.len
  have mixed : Tryz.prog.follows Departure.mixedOrders = true := by kernel_rfl
  obtain ⟨X, hbk, hXl, hXt, hnc, hm, _⟩ := h.cells
  unfold maxLen at hm
  obtain ⟨i0, hi0, hz0, hzs, hzb⟩ := info_parts id_info
  have hz2 : ¬ ((i : Int) = (n : Int)) := by omega
  have hz3 : (cap : Int) < (n : Int) + 1 := by omega
  have hsz : (Tryz.prog.info? 81).map (·.size) = some 1 := by rw [hi0]; simp [hzs]
  have hbw := hbk.lt
  have hvw := hv.lt
  have hkk : (n : Int) + 1 - (i : Int) = ((n + 1 - i : Nat) : Int) := by omega
  have hik : i + (n + 1 - i) = n + 1 := by omega
  obtain ⟨A, hA⟩ : ∃ A, A = (xs.take i).map (Value.int .i64) := ⟨_, rfl⟩
  have hAl : A.length = i := by rw [hA, List.length_map, List.length_take]; omega
  have hold : (Builtin.firstCells i0.size i (.slice (some ⟨b, 0, none⟩) i cap)).run Tryz.prog w.drew = .ok A.toArray w.drew := by
    rw [hzs]
    exact run_firstCells_some w.drew 1 i ⟨b, 0, none⟩ i cap A (by omega) (fun j v hj => by
      rw [Addr.add_lit, Nat.zero_add]
      rw [hA, List.getElem?_map] at hj
      cases hq : (xs.take i)[j]? with
      | none => rw [hq] at hj; cases hj
      | some y =>
        rw [hq] at hj
        injection hj with hj
        rw [← hj]
        rw [List.getElem?_take] at hq
        split at hq
        · exact h.at_ hq
        · cases hq)
  have hrz : ∀ ty, (Builtin.append_ #[35, 3] ty #[.slice (some ⟨b, 0, none⟩) i cap, .int .i64 ((n : Int) + 1 - (i : Int))]).run Tryz.prog w =
      .ok (.slice (some ⟨w.heap.size, 0, none⟩) (n + 1) (grownCap w (n + 1) cap 81)) (w.drew.alloc (.cells (A.toArray ++ Builtin.zeroCells (Value.int .i64 0).cells (n + 1 - i) ++ Builtin.zeroCells (Value.int .i64 0).cells (grownCap w (n + 1) cap 81 - (n + 1))) 81)) := fun ty => by
    have h := Lib.run_append_grow_zeros w 35 3 ty 81 i0 _ .i64 .i64 Tryz.underlying35 Tryz.underlying3 hi0 hz0 (some ⟨b, 0, none⟩) i cap A hold (n + 1 - i) (by omega) (by omega) (by omega) (by omega) (by rw [hzb]; omega) (by rw [hzb, hik]; exact growslice_fits hroom (by omega))
    rw [hik] at h
    rw [hkk]
    exact h
  obtain ⟨G, hG⟩ : ∃ G, G = grownCap w (n + 1) cap 81 := ⟨_, rfl⟩
  have hGn : n + 1 ≤ G := by rw [hG]; exact grownCap_ge w _ _ _
  have hG63 : G ≤ 9223372036854775807 := by
    have := grownCap_le_maxLen w (n + 1) cap 81 (by unfold maxLen; omega)
    rw [← hG] at this
    unfold maxLen at this
    omega
  obtain ⟨ROW, hROW⟩ : ∃ ROW : List Value, ROW = (A.toArray ++ Builtin.zeroCells (Value.int .i64 0).cells (n + 1 - i) ++ Builtin.zeroCells (Value.int .i64 0).cells (G - (n + 1))).toList := ⟨_, rfl⟩
  have hRO : A.toArray ++ Builtin.zeroCells (Value.int .i64 0).cells (n + 1 - i) ++ Builtin.zeroCells (Value.int .i64 0).cells (G - (n + 1)) = ROW.toArray := by rw [hROW, Array.toArray_toList]
  rw [← hG] at hrz
  simp only [hRO] at hrz
  have hRl : ROW.length = G := by
    rw [hROW]
    simp [Builtin.zeroCells, Value.cells, hAl]
    omega
  have HRt : Hid (ROW.take i = (xs.take i).map (Value.int .i64)) := Lib.hid (by
    rw [hROW, ← hA, Array.toList_append, Array.toList_append, List.append_assoc, List.take_append_of_le_length (by simp [hAl]), List.take_of_length_le (by simp [hAl])])
  have HRl := Lib.hid (And.intro hGn (And.intro hG63 hRl))
  obtain ⟨W1, hW1⟩ : ∃ W1, W1 = w.drew.alloc (.cells ROW.toArray 81) := ⟨_, rfl⟩
  rw [← hW1] at hrz
  have hN : ∀ j, j < n + 1 → (W1.cell? ⟨w.heap.size, j, none⟩).isSome = true := fun j hj => by
    rw [hW1, World.cell?_alloc_at (w := w.drew) ROW.toArray _ w.heap.size j rfl, Array.getElem?_eq_getElem (by simp; omega)]; rfl
  have hNf : ∀ j, W1.frozen? ⟨w.heap.size, j, none⟩ = false := fun j => by rw [hW1]; exact World.frozen?_alloc_at (w := w.drew) ROW.toArray _ w.heap.size j rfl
  have hOb : ∀ j v, w.cell? ⟨b, j, none⟩ = some v → W1.cell? ⟨b, j, none⟩ = some v := fun j v h => by rw [hW1, World.cell?_alloc_past (w := w.drew) _ b j hbw]; exact h
  have hOv : ∀ j v, w.cell? ⟨vb, j, none⟩ = some v → W1.cell? ⟨vb, j, none⟩ = some v := fun j v h => by rw [hW1, World.cell?_alloc_past (w := w.drew) _ vb j hvw]; exact h
  have hcpA : ∀ (W : World), (∀ x, W.cell? x = W1.cell? x) → (∀ x, W.frozen? x = W1.frozen? x) → ∀ ty dc, (Builtin.copy_ #[35, 35] ty #[.slice (some ⟨w.heap.size, i, none⟩) (n + 1 - i) dc, .slice (some ⟨vb, 0, none⟩) 1 1]).run Tryz.prog W = .ok (goInt 1) (W.setCells w.heap.size i [.int .i64 c]) := fun W hWc hWf ty dc =>
    run_copy_cells W _ _ ty 81 w.heap.size i (n + 1 - i) dc ⟨vb, 0, none⟩ 1 1 [.int .i64 c] Tryz.underlying35 hsz (by show 1 = _; simp only [Nat.min_def]; split <;> omega)
      (fun j v hj => by
        rw [Addr.add_lit, hWc, Nat.zero_add]
        refine hOv j v ?_
        rw [hv.cell j]
        simpa using hj)
      (fun j hj => by rw [hWc]; exact hN _ (by simp at hj; omega)) (fun j hj => by rw [hWf]; exact hNf _) (by intro u hu; simp at hu; subst hu; rfl)
  have hGi : ¬ (G = i) := by omega
  have hGim : ¬ (G = i + 1) := by omega
  have hci : ¬ (cap = i) := by omega
  have hbN : b ≠ w.heap.size := by omega
  obtain ⟨D, hD⟩ : ∃ D, D = (xs.drop i).map (Value.int .i64) := ⟨_, rfl⟩
  have hdl : D.length = n - i := by rw [hD, List.length_map, List.length_drop, hlen]
  have hcpB : ∀ (W : World), (∀ x, W.cell? x = (W1.setCells w.heap.size i [.int .i64 c]).cell? x) → (∀ x, W.frozen? x = (W1.setCells w.heap.size i [.int .i64 c]).frozen? x) → ∀ ty dc sc, (Builtin.copy_ #[35, 35] ty #[.slice (some ⟨w.heap.size, i + 1, none⟩) (n - i) dc, .slice (some ⟨b, i, none⟩) (n - i) sc]).run Tryz.prog W = .ok (goInt D.length) (W.setCells w.heap.size (i + 1) D) := fun W hWc hWf ty dc sc =>
    run_copy_cells W _ _ ty 81 w.heap.size (i + 1) (n - i) dc ⟨b, i, none⟩ (n - i) sc D Tryz.underlying35 hsz (by rw [hdl]; simp only [Nat.min_def]; split <;> omega)
      (fun j v hj => by
        rw [Addr.add_lit, hWc, World.cell?_setCells_out _ _ _ _ _ (fun h _ => absurd h hbN)]
        refine hOb _ v ?_
        rw [hD, List.getElem?_map, List.getElem?_drop] at hj
        cases hq : xs[i + j]? with
        | none => rw [hq] at hj; cases hj
        | some y =>
          rw [hq] at hj
          injection hj with hj
          rw [← hj]
          exact h.at_ hq)
      (fun j hj => by rw [hWc]; exact isSome_setCells _ _ _ _ (fun t ht => hN _ (by simp at ht; omega)) _ (hN _ (by omega)))
      (fun j hj => by rw [hWf, World.frozen?_setCells]; exact hNf _) (by rw [hD]; exact one_enc _)
  subst hW1
  have hE1 : ∀ x, ((w.alloc (.cells ROW.toArray 81)).drew).cell? x = (w.drew.alloc (.cells ROW.toArray 81)).cell? x := fun x => rfl
  have hE2 : ∀ x, ((w.alloc (.cells ROW.toArray 81)).drew).frozen? x = (w.drew.alloc (.cells ROW.toArray 81)).frozen? x := fun x => rfl
  have hF1 : ∀ x, (((w.alloc (.cells ROW.toArray 81)).drew.setCells w.heap.size i [.int .i64 c]).drew).cell? x = ((w.drew.alloc (.cells ROW.toArray 81)).setCells w.heap.size i [.int .i64 c]).cell? x := fun x => rfl
  have hF2 : ∀ x, (((w.alloc (.cells ROW.toArray 81)).drew.setCells w.heap.size i [.int .i64 c]).drew).frozen? x = ((w.drew.alloc (.cells ROW.toArray 81)).setCells w.heap.size i [.int .i64 c]).frozen? x := fun x => rfl
  have hw1 : IntKind.i64.wrap ((i : Int) + 1) = (i : Int) + 1 := by rw [IntKind.wrap_i64]; omega
  have hb1 : (0 : Int) ≤ (i : Int) + 1 := by omega
  have hin : i ≤ n := by omega
  have htn : ((i : Int) + 1).toNat = i + 1 := by omega
  have hb3 : (i : Int) ≤ (n : Int) := by omega
  rw [← hD]
  clear hkk hik hold hROW hRO hG hRl hA hAl hN hNf hOb hOv hXt hXl hbk hsz hzs hzb hi0 hz0 hD
  go_enter Tryz.func184, Tryz.ntmps184
  go_wp2_with (first
    | (at_builtin; refine Lib.wpList_append_run _ rfl _ _ _ _ rfl _ _ rfl rfl _ _ (hrz _) ?_)
    | (at_builtin; refine wpList_copy_runI _ rfl _ _ 35 35 rfl _ _ rfl rfl (hcpA _ hE1 hE2 _ _) ?_))
  go_region_law_o (refine step_copy_runI rfl _ _ 35 35 rfl (.slice (some ⟨w.heap.size, i + 1, none⟩) (n - i) (G - (i + 1))) (.slice (some ⟨b, i, none⟩) (n - i) (cap - i)) (by simp [Act.eval, Act.put]) (by simp [Act.eval, Act.put]) (hcpB _ hF1 hF2 3 (G - (i + 1)) (cap - i)) ?_)
  go_wp2
  go_ret
  exact ⟨G, ROW, rfl, HRl.out.1, by unfold maxLen; exact HRl.out.2.1, HRl.out.2.2, HRt.out, rfl⟩

end Go.Proofs.YthhfcedhbfandaaGreat
