/-
  Maps from names as functions: what is looked up, put and deleted.
-/
import Derived.Test.YtffbehcbokmpkaaML10
import Derived.Maps.OwnSet
import Derived.Lib.SlKeysI
namespace Go.Proofs.Ytffbehcbokmpkaa
open Go.RowKit

def Rg (x : Int) : Prop := -9223372036854775808 ≤ x ∧ x ≤ 9223372036854775807
instance (x : Int) : Decidable (Rg x) := by unfold Rg; exact inferInstance
def Rgs (xs : List Int) : Prop := ∀ x ∈ xs, Rg x
instance (xs : List Int) : Decidable (Rgs xs) := by unfold Rgs; exact inferInstance
theorem id_law : Go.Maps.Keyed Try.prog 22 := Go.Maps.int_keyed Try.underlying22
theorem id_key {x : Int} (h : Rg x) : keyOf Try.prog 22 (.int .i64 x) = some (.int .i64 x) := by
  refine Go.Maps.keyOf_int_mk Try.underlying22 ?_
  show (decide (IntKind.i64.min ≤ x) && decide (x ≤ IntKind.i64.max)) = true
  rw [decide_eq_true (show IntKind.i64.min ≤ x from h.1), decide_eq_true (show x ≤ IntKind.i64.max from h.2)]
  rfl
/-- what a map's elements are -/
structure MK (α : Type) where
  t : TypeId
  e : TypeId
  V : Option α → Value
  E : Option α → DataW Unit
  R : Value → Option (DataW Unit × List MemPlace)
  ht : Try.prog.underlying t = some (.map 22 e)
  hz : ∀ w, (zeroValue e).run Try.prog w = .ok (V none) w
  rv : ∀ o, R (V o) = some (E o, [])
  inv : ∀ v o ps, R v = some (E o, ps) → v = V o
/-- a map that is a function -/
def MF {α : Type} (k : MK α) (w : World) (mb : Nat) (m : Int → Option α) : Prop := ∃ D : DataW Unit, w.ownsMap Try.prog 22 k.R mb 100000 D ∧ (∀ x, Rg x → D.atKey (.int .i64 x) (k.E none) = k.E (m x) ∧ Maps.has D (.int .i64 x) = (m x).isSome) ∧ ∀ x : Int, Maps.has D (.int .i64 x) = true → Rg x
def upm {α : Type} (m : Int → Option α) (x : Int) (o : Option α) (y : Int) : Option α := if y = x then o else m y
/-! how many entries -/
def ddI : List Int → List Int
  | [] => []
  | x :: l => if x ∈ l then ddI l else x :: ddI l
theorem mem_ddI {z : Int} : ∀ {l : List Int}, z ∈ ddI l ↔ z ∈ l
  | [] => Iff.rfl
  | x :: l => by
    unfold ddI
    by_cases c : x ∈ l
    · rw [if_pos c, mem_ddI, List.mem_cons]
      exact ⟨Or.inr, fun h => h.elim (fun e => e ▸ c) id⟩
    · rw [if_neg c, List.mem_cons, List.mem_cons, mem_ddI]
theorem nod_ddI : ∀ l : List Int, (ddI l).Nodup
  | [] => List.nodup_nil
  | x :: l => by
    unfold ddI
    by_cases c : x ∈ l
    · rw [if_pos c]; exact nod_ddI l
    · rw [if_neg c]; exact List.nodup_cons.2 ⟨fun h => c (mem_ddI.1 h), nod_ddI l⟩
theorem len_ddI : ∀ l : List Int, (ddI l).length ≤ l.length
  | [] => Nat.le_refl _
  | x :: l => by
    have ih := len_ddI l
    unfold ddI
    by_cases c : x ∈ l
    · rw [if_pos c, List.length_cons]; omega
    · rw [if_neg c, List.length_cons, List.length_cons]; omega
theorem own_small9 {R : Value → Option (DataW Unit × List MemPlace)} {w : World} {mb n : Nat} {D : DataW Unit} (hw : w.ownsMap Try.prog 22 R mb n D) (K : List Int) (hK : ∀ x : Int, Maps.has D (.int .i64 x) = true → x ∈ K) : Maps.size D ≤ K.length := by
  have hp : (ddI (K.filter fun x => Maps.has D (.int .i64 x))).Perm (intKeys D) := CollectedI.perm (left := fun _ => false) ⟨nod_ddI _, fun x => by
    rw [mem_ddI, List.mem_filter]
    exact ⟨fun h => ⟨h.2, rfl⟩, fun h => ⟨hK x h.1, h.1⟩⟩⟩ hw id_law Try.underlying22 (fun _ => rfl)
  have h1 := hp.length_eq
  have h2 := len_ddI (K.filter fun x => Maps.has D (.int .i64 x))
  have h3 := List.length_filter_le (fun x => Maps.has D (.int .i64 x)) K
  obtain ⟨es, rfl, _⟩ := hw.entries id_law
  unfold intKeys at h1
  rw [List.length_map] at h1
  rw [Maps.size_eq]
  omega
theorem own_size9 {R : Value → Option (DataW Unit × List MemPlace)} {w : World} {mb n m : Nat} {D : DataW Unit} (hw : w.ownsMap Try.prog 22 R mb n D) (h : Maps.size D ≤ m) : w.ownsMap Try.prog 22 R mb m D := by
  obtain ⟨es, clock, hb, F, hs, hD⟩ := hw
  refine ⟨es, clock, hb, F, ?_, hD⟩
  have e1 : Maps.size D = es.size := by rw [hD]; simp [Maps.size, length_sorted]
  omega
section
variable {α : Type} {k : MK α} {w w' : World} {mb : Nat} {m : Int → Option α} {x : Int}
theorem MF.lt (h : MF k w mb m) : mb < w.heap.size := by
  obtain ⟨D, hD, _⟩ := h
  exact hD.lt
theorem MF.same (h : MF k w mb m) (he : w'.heap[mb]? = w.heap[mb]?) : MF k w' mb m := by
  obtain ⟨D, ⟨es, clock, hb, F, hs, hD⟩, hk⟩ := h
  exact ⟨D, ⟨es, clock, he.trans hb, F, hs, hD⟩, hk⟩
theorem MF.keep (h : MF k w mb m) (hb : Below w.heap.size w w') : MF k w' mb m := h.same (hb.block mb h.lt)
theorem MF.new (k : MK α) (w : World) : MF k (w.alloc (.map #[] 0)) w.heap.size (fun _ => none) :=
  ⟨.map [], (World.ownsMap_made w _ _ _).mono (by omega), fun _ _ => ⟨rfl, rfl⟩, fun x h => by cases h⟩
theorem MF.look (h : MF k w mb m) (hx : Rg x) : (Instr.lookup k.t (.map (some mb)) (.int .i64 x) true).run Try.prog w = .ok (.tuple #[k.V (m x), .bool (m x).isSome]) w := by
  obtain ⟨D, hD, hk, _⟩ := h
  obtain ⟨v, ps, hrun, hv⟩ := hD.look_ok id_law k.ht (k.hz w) (k.rv none) (id_key hx)
  rw [(hk x hx).1] at hv
  rw [hrun, k.inv v _ _ hv, (hk x hx).2]
theorem MF.put (h : MF k w mb m) (hx : Rg x) (a : α) (K : List Int) (hK : ∀ y, (upm m x (some a) y).isSome = true → y ∈ K) (hKl : K.length ≤ 100000) :
    ∃ w', (Instr.mapUpdate k.t (.map (some mb)) (.int .i64 x) (k.V (some a))).run Try.prog w = .ok () w' ∧ MF k w' mb (upm m x (some a)) ∧ w.grownBy w' (some mb) := by
  obtain ⟨D, hD, hk, hr⟩ := h
  obtain ⟨w', hrun, h1, h2⟩ := hD.update id_law k.ht (by unfold maxLen; omega) (id_key hx) (k.rv (some a))
  have hm : Maps.IsMap D := hD.isMap
  have hL : WideAt.IsKeyLit (.int .i64 x) := trivial
  have hne : ∀ {y : Int}, y ≠ x → (Lit.int .i64 y) ≠ .int .i64 x := fun hy e => by injection e with _ e; exact hy e
  have hr' : ∀ y : Int, Maps.has (D.put (.int .i64 x) (k.E (some a))) (.int .i64 y) = true → Rg y := fun y hy => by
    by_cases c : y = x
    · rw [c]; exact hx
    · rw [Maps.has_put_other (hne c)] at hy
      exact hr y hy
  have hk' : ∀ y, Rg y → (D.put (.int .i64 x) (k.E (some a))).atKey (.int .i64 y) (k.E none) = k.E (upm m x (some a) y) ∧ Maps.has (D.put (.int .i64 x) (k.E (some a))) (.int .i64 y) = (upm m x (some a) y).isSome := fun y hy => by
    unfold upm
    by_cases c : y = x
    · subst c
      rw [if_pos rfl, Maps.atKey_put_same hm hL, Maps.has_put_same hm hL]
      exact ⟨rfl, rfl⟩
    · rw [if_neg c, Maps.atKey_put_other (hne c), Maps.has_put_other (hne c)]
      exact hk y hy
  have hs := own_small9 h1 K (fun y hy => hK y (by rw [← (hk' y (hr' y hy)).2]; exact hy))
  exact ⟨w', hrun, ⟨_, own_size9 h1 (Nat.le_trans hs hKl), hk', hr'⟩, h2⟩
end
def enc1 : Value → DataW Unit
  | .int k x => .lit (.int k x)
  | .bool b => .lit (.bool b)
  | _ => .nil
def simp1 (v : Value) : Prop := (∃ k x, v = .int k x) ∨ ∃ b, v = .bool b
theorem enc1_inj {v u : Value} (hu : simp1 u) (h : enc1 v = enc1 u) : v = u := by
  rcases hu with ⟨k, x, rfl⟩ | ⟨b, rfl⟩
  · cases v <;> simp [enc1] at h ⊢
    exact h
  · cases v <;> simp [enc1] at h ⊢
    exact h
def encA : Value → DataW Unit
  | .agg a => .agg (a.toList.map enc1)
  | _ => .nil
theorem enc_list : ∀ {xs l : List Value}, (∀ u ∈ l, simp1 u) → xs.map enc1 = l.map enc1 → xs = l
  | [], [], _, _ => rfl
  | [], _ :: _, _, h => by simp at h
  | _ :: _, [], _, h => by simp at h
  | x :: xs, y :: l, hl, h => by
    rw [List.map_cons, List.map_cons] at h
    injection h with h1 h2
    rw [enc1_inj (hl y List.mem_cons_self) h1, enc_list (fun u hu => hl u (List.mem_cons_of_mem _ hu)) h2]
theorem encA_inj {v : Value} {l : List Value} (hl : ∀ u ∈ l, simp1 u) (h : encA v = encA (.agg l.toArray)) : v = .agg l.toArray := by
  cases v with
  | agg a =>
    unfold encA at h
    injection h with h
    have := enc_list (xs := a.toList) (l := l) hl h
    rw [← this]
  | _ => simp [encA] at h
def mkA {α : Type} (t e : TypeId) (V : Option α → Value) (ht : Try.prog.underlying t = some (.map 22 e)) (hz : ∀ w, (zeroValue e).run Try.prog w = .ok (V none) w) (hV : ∀ o, ∃ l : List Value, V o = .agg l.toArray ∧ ∀ u ∈ l, simp1 u) : MK α where
  t := t
  e := e
  V := V
  E o := encA (V o)
  R v := some (encA v, [])
  ht := ht
  hz := hz
  rv o := rfl
  inv v o ps h := by
    simp at h
    obtain ⟨l, hl, hs⟩ := hV o
    rw [hl] at h ⊢
    exact encA_inj hs h.1
end Go.Proofs.Ytffbehcbokmpkaa
